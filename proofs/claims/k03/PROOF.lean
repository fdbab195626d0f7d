import PyProof.Rows.All
import Wide.All
import OpenK.AllK
import Wide.FinOn
import HandS.ForMost
import HandS.Exc
import HandS.ExcOwn
import HandS.TryOnly
import HandS.WordsExc
import HandS.IsInst
import HandS.DictComp
import HandS.Conv
import HandS.More
import HandS.SortInts
import HandS.Small
import HandS.Evl
import KE.KBits
import HandS.OwnIter
import HandS.IterNext
import HandS.ExcInit
import HandS.ExcField
import KE.KExcInit
import HandS.Walk
import HandS.TryMany
import KE.GoesMore
import HandS.Iter
import KE.KDictZip
import KE.GoesEnum
import KE.KDictItemsList
import HandS.ListItems
import HandS.Style
import KE.KRevSl
import KE.KDictList
import HandS.Zip
import HandS.RaiseMore
import HandS.RevRange
import HandS.ExcIs
import PySem.Challenge.RW_selfwritten_k03_chosen_lifted_and_writte
import HandS.Text
import HandS.StrMore
import HandS.FStr
import KE.KExcLine
set_option Elab.async false
set_option linter.all false
set_option maxRecDepth 100000
set_option maxHeartbeats 4000000
/-! Kit -/
/-! own rules over the hand layer -/
namespace My
open PySem PySem.Spec PyProof.Rows L2
section
variable {X : Cx}
theorem callR_imp {f : Value} {r r' : List V → Hp → VK → Prop} (h : CallR X f r) (i : ∀ xs H Q, r' xs H Q → r xs H Q) : CallR X f r' :=
  fun pins s σ H xs us Q I rv q => h pins s σ H xs us Q I rv (i xs H Q q)
theorem call_intI : CallR X (.type "int") (fun xs H Q => ∃ i, xs = [.int i] ∧ Q (.int i) H) := callR_imp call_int1 fun _ _ _ h => .inl h
theorem call_intB : CallR X (.type "int") (fun xs H Q => ∃ k, xs = [.bl k] ∧ Q (.int (if k then 1 else 0)) H) := callR_imp call_int1 fun _ _ _ h => .inr h
theorem call_lenL : CallR X (.builtin "len") (fun xs H Q => ∃ p ys, xs = [.ref p] ∧ SqL X.K H p ys ∧ Q (.int ys.length) H) := callR_imp call_len_seq fun _ _ _ ⟨p, ys, e, h, q⟩ => ⟨p, ys, e, .inl h, q⟩
theorem call_lenT : CallR X (.builtin "len") (fun xs H Q => ∃ p ys, xs = [.ref p] ∧ SqT X.K H p ys ∧ Q (.int ys.length) H) := callR_imp call_len_seq fun _ _ _ ⟨p, ys, e, h, q⟩ => ⟨p, ys, e, .inr h, q⟩
theorem call_listL : CallR X (.type "list") (fun xs H Q => ∃ p ys, xs = [.ref p] ∧ SqL X.K H p ys ∧ ∀ l, H l = none → Q (.ref l) (upd H l (.lst ys))) := callR_imp call_list_of fun _ _ _ ⟨p, ys, e, h, q⟩ => ⟨p, ys, e, .inl h, q⟩
theorem call_listT : CallR X (.type "list") (fun xs H Q => ∃ p ys, xs = [.ref p] ∧ SqT X.K H p ys ∧ ∀ l, H l = none → Q (.ref l) (upd H l (.lst ys))) := callR_imp call_list_of fun _ _ _ ⟨p, ys, e, h, q⟩ => ⟨p, ys, e, .inr h, q⟩
theorem call_tupleL : CallR X (.type "tuple") (fun xs H Q => ∃ p ys, xs = [.ref p] ∧ SqL X.K H p ys ∧ ∀ l, H l = none → Q (.ref l) (upd H l (.tup ys))) := callR_imp call_tuple_of fun _ _ _ ⟨p, ys, e, h, q⟩ => ⟨p, ys, e, .inl ⟨h, q⟩⟩
theorem call_isTy : CallR X (.builtin "isinstance") (fun xs H Q => ∃ x t c, xs = [x, .ty c] ∧ TyX X.K H x (.type t) ∧ ∃ b, kitB t c = some b ∧ Q (.bl b) H) :=
  callR_imp call_isi fun _ _ _ ⟨x, t, c, e, h, b, k, q⟩ => ⟨x, .ty c, .type t, .type c, b, e, .ty c, h, kit_ty k, q⟩
theorem call_isTy2 : CallR X (.builtin "isinstance") (fun xs H Q => ∃ x t c d tp, xs = [x, .ref tp] ∧ H tp = some (.tup [.ty c, .ty d]) ∧ TyX X.K H x (.type t) ∧ ∃ b b', kitB t c = some b ∧ kitB t d = some b' ∧ Q (.bl (b || b')) H) :=
  callR_imp call_isiT fun _ _ _ ⟨x, t, c, d, tp, e, ht, h, b, b', k, k', q⟩ => ⟨x, tp, [.ty c, .ty d], .type t, [.type c, .type d], (b || b'), e, ht, .cons (.ty c) (.cons (.ty d) .nil), h,
    kitAny_cons (kit_ty k) (fun z => by rw [z]; exact kitAny_cons (kit_ty k') (fun z' => by rw [z']; exact kitAny_nil) (fun z' => by rw [z']; rfl)) (fun z => by rw [z]; rfl), q⟩
theorem k_ii : kitB "int" "int" = some true := by decide +kernel
theorem k_bi : kitB "bool" "int" = some true := by decide +kernel
theorem k_ni : kitB "NoneType" "int" = some false := by decide +kernel
theorem k_si : kitB "str" "int" = some false := by decide +kernel
theorem k_li : kitB "list" "int" = some false := by decide +kernel
theorem k_ib : kitB "int" "bool" = some false := by decide +kernel
theorem k_bb : kitB "bool" "bool" = some true := by decide +kernel
theorem k_ll : kitB "list" "list" = some true := by decide +kernel
theorem k_lt : kitB "list" "tuple" = some false := by decide +kernel
theorem k_tl : kitB "tuple" "list" = some false := by decide +kernel
theorem k_tt : kitB "tuple" "tuple" = some true := by decide +kernel
theorem k_nl : kitB "NoneType" "list" = some false := by decide +kernel
theorem k_nt : kitB "NoneType" "tuple" = some false := by decide +kernel
theorem pe_fldA {e : Expr} {ta : TE} {f : Str} {pos : Pos} (he : PE X e ta) (hb : attributeBase e f X.env (eval e X.env) = eval e X.env := by rfl) : PE X (.Attribute e f pos) (tFld X.K ta f) := pe_fld he hb
/-- X(), X an own exception class without own __init__ -/
theorem pmk_0 {C : Addr} {bmB : List Value} {B newId initId : String} {x : Str} {p pos : Pos} (F : ExcBaseFacts B newId initId bmB) (q : PySem.W.excIn X.K C bmB newId = true) (gC : X.mg x = some (.ref C))
    (kC : PySem.W.keepIn X.K (.ref C) = true) (r : Raises X (.ref C)) (hg : Gl X x) (hdb : (x == ("__debug__" : Str)) = false := by decide) :
    PMk X (.Call (.Name x p) [] [] pos) (fun _ H Q => Q (.ref C) none H) := by
  intro pins s σ H Q I h
  refine wpAny_Call_Name_kw (ld_glob I hg gC ?_ hdb)
  refine PySem.W.callWith_K0 I.kIn kC ?_
  obtain ⟨bm, N, nm, qn, bs, hdct, sn, sub, ab, col, dd, k0, k1, k2, k3, k5, mN, hC, hN, hni, T⟩ := exc_obj I.kIn q
  refine wpAny_call_exc_subT F T hC hN hni (fun h' e hm => ?_) (Nat.zero_le _)
  exact mk_of I hm r h (I.hok.gone hm.new)
theorem sw_trueD {kx vx : Expr} {gs : List Comprehension} {scope : Scope} {pos py : Pos} {y : Str} {l : Nat} {env : Env} (hk : env.scope.kind = .function) (hy : env.scope.names.lookup y = some .local) (hl : (py.line == pos.line) = true)
    (ha : (scope.names.any fun (n, k) => n == y && (k == .local || k == .cell)) = false) : swapsWith (.DictComp kx vx gs scope pos) (some (.Name y py)) l env = pure true := by
  have ky : env.kindOf y = some .local := hy
  have hb : env.blockKind = .function := by unfold Env.blockKind; rw [hk]; rfl
  unfold swapsWith
  simp only [hb, ky, ha, Expr.pos, hl]
  rfl
theorem ps_setDc {i : Nat} {y : Str} {py : Pos} {kx vx tg iter : Expr} {ifs : List Expr} {scope : Scope} {own : List (Str × Nat)} {pos spos : Pos} {wi : TI} {g : TG} {tt : TT} {tk tv : TE} (hc : X.calm = true) (hN : X.N.Nodup) (hy : X.N[i]? = some y) (hyl : X.env.scope.names.lookup y = some .local)
    (hsw : swapsWith (.DictComp kx vx [⟨tg, iter, ifs, 0⟩] scope pos) (some (.Name y py)) spos.line X.env = pure true) (hi : PI X tg iter wi) (ok : BlkOk X.N X.env.scope scope own)
    (hg : ∀ (s : Shared) (H : Hp) (C : Addr) (cl : List (Str × Addr)) (fp : List Addr), PG (X.blk s H scope (compEnvC scope cl C X.env) fp) tg g) (ht : ∀ (s : Shared) (H : Hp) (C : Addr) (cl : List (Str × Addr)) (fp : List Addr), PTs (X.blk s H scope (compEnvC scope cl C X.env) fp) ifs tt)
    (hk : ∀ (s : Shared) (H : Hp) (C : Addr) (cl : List (Str × Addr)) (fp : List Addr), PE (X.blk s H scope (compEnvC scope cl C X.env) fp) kx tk)
    (he : ∀ (s : Shared) (H : Hp) (C : Addr) (cl : List (Str × Addr)) (fp : List Addr), PE (X.blk s H scope (compEnvC scope cl C X.env) fp) vx tv) (hs : ∀ x, foldedSetIterable iter X.env x = pure x := by intro _; rfl) :
    PS X (.Assign [.Name y py] (.DictComp kx vx [⟨tg, iter, ifs, 0⟩] scope pos) spos) (tAsg (tDc wi g tt tk tv (own.map (·.2))) (gName i)) := by
  refine ⟨fun pins s σ H D I h => ?_⟩
  rw [exec_Assign_Name_used _ _ _ _ hsw]
  refine wpAny_bind (wpAny_standAt (wpAny_bind ?_))
  show wpAny _ X.A (do let _ ← comprehension (.DictComp kx vx [⟨tg, iter, ifs, 0⟩] scope pos) scope X.env (firstIterPos [⟨tg, iter, ifs, 0⟩] pos) (newDict #[]) false (eval iter X.env) (some (assign (.Name y py) X.env))) _ _ s
  have h : tDc wi g tt tk tv (own.map (·.2)) σ H (fun x H1 => gName i x σ H1 D.nx) := h
  refine wpAny_bind (thn (dc_core (Qf := fun _ s' => SP X pins D .next s') hc hN I hi ok hg ht hk he hs h fun L C s' m H' I' q hn f => ?_) fun _ s' hq => wpAny_pure (wpAny_pure hq))
  show wpAny _ _ (assign (.Name y py) X.env (.ref L)) _ _ _
  refine wpAny_assign_Name (store_ok2 (v := V.ref L) I' hN hy (.inl hyl) rfl (fun s2 I2 ⟨a, sb, ha⟩ => ?_) (.inr hyl))
  obtain ⟨f0, f1, f2, f3, f4, f5⟩ := f
  have haC : C ≠ a := by
    rcases ha with z | z
    · rw [z]; exact f1
    · exact fun e => f4 y a z e.symm
  refine ⟨m, hn.sameBut sb haC, fun h3 sb3 => ?_⟩
  exact ⟨_, H', I2.turned (t' := s2.toks) (fun b o hb e => (sb3.2 b hb).trans e) f0 f1 f3 f4 f5, q⟩
end
end My

/-! Kit2 -/
/-! len(o), list(o) of an own class with __len__, __iter__ -/
namespace My
open PySem PySem.Spec L2
section
variable {X : Cx} {pins : List (Addr × Obj)} {σ : L2.St} {H : Hp} {s : Shared}
/-- a def called from within a built-in -/
theorem run_in {A1 : Around} {k : Nat} {f : Addr} {fd : FuncData} {sp : Sp} {a : Addr} {Q : VK} {Q' : Value → Shared → Prop} {E' : Value → Shared → Prop} (sb : Sub X k A1) (FL : FnOk X.prog X.w X.K X.mg X.base CX0 k f fd ["self"] sp) (bL : Binds X.K fd ["self"] [])
    (I : Inv X pins σ H s) (hsp : sp [.ref a] H Q E0) (h : ∀ u s' v H', Inv X pins σ H' s' → RelV v u → Q v H' → Q' u s') :
    wpAny (model X.prog X.w) A1 (call (.ref f) [.ref a]) Q' E' s := by
  have e0 : Env0 X.prog X.w X.K X.mg X.base A1 X.stack s H := by
    have e := I.env0
    exact ⟨by rw [sb.fr]; exact e.frames, e.mod, e.bs, e.bsz, e.funs, e.frf, e.hok, e.bare⟩
  have hl := FL.len _ _ _ _ hsp
  have r2 : Vals [V.ref a] [Value.ref a] := .cons rfl .nil
  refine wpAny_call (codeAny_mono (FL.run A1 X.stack s H ⟨[.ref a], []⟩ [.ref a] [.ref a] Q E0 sb.room e0 (by
    have := bL s [.ref a] I.kIn (by simpa using hl)
    simpa using this) r2 hsp) fun r s' hq => ?_)
  cases r with
  | error e => exact False.elim hq
  | ok fl =>
    cases fl with
    | ret u =>
      obtain ⟨v, H', I', rv, q⟩ := I.after hq
      exact h u s' v H' I' rv q
    | next => exact False.elim hq
    | brk => exact False.elim hq
    | cont => exact False.elim hq
theorem len_in {A : Around} {k : Nat} {C f a dx : Addr} {fs : List (Str × V)} {fd : FuncData} {sp : Sp} {n : Nat} {Q : Value → Shared → Prop} {E' : Value → Shared → Prop} (hl : PySem.W.findIn X.K (.ref C) "__len__" = some (some (.ref f))) (hf : PySem.W.typeIn X.K (.ref f) = some (.type "function"))
    (FL : FnOk X.prog X.w X.K X.mg X.base CX0 k f fd ["self"] sp) (bL : Binds X.K fd ["self"] []) (sb : Sub X (k + 1) A) (I : Inv X pins σ H s) (ha : H a = some (.ins C dx fs)) (hn : n < 2 ^ 63)
    (hsp : sp [.ref a] H (fun v H' => v = .int n ∧ H' = H) E0) (h : ∀ t s', Inv X pins σ H s' → Q (.int n t) s') : wpAny (model X.prog X.w) A (call (.builtin "len") [.ref a]) Q E' s := by
  obtain ⟨mA, J, _⟩ := ins_get I.hok ha
  obtain ⟨od, J, _⟩ := J.look
  refine Calls.call_function_entry kind_len plain_len entry_len (args_len1 _) ?_
  unfold Builtin.«len»
  refine wpAny_bind (m := oneArg "len" _) (wpAny_pure ?_)
  refine wpAny_bind (m := callSpecial? (.ref a) (Str.ofString "__len__")) (PySem.W.special_fn I.kIn J hl hf ?_)
  refine run_in sb.in1 FL bL I hsp fun u s' v H' I' rv q => ?_
  obtain ⟨ev, eH⟩ := q
  subst ev
  rw [eH] at I'
  obtain ⟨t, rfl⟩ := rv
  refine wpAny_bind (wpAny_holding (wpAny_pure ?_))
  refine wpAny_bind (wpAny_letGo ?_)
  show wpAny _ _ (if (n : Int) < 0 then _ else _) _ _ _
  rw [if_neg (by omega)]
  show wpAny _ _ (if (n : Int) ≥ 2 ^ 63 then _ else _) _ _ _
  rw [if_neg (by omega)]
  exact wpAny_bind (wpAny_mkInt (wpAny_pure ⟨_, rfl, h _ _ (I'.tok _)⟩))
theorem call_lenOwn {k : Nat} {C f : Addr} {fd : FuncData} {sp : Sp} (hl : PySem.W.findIn X.K (.ref C) "__len__" = some (some (.ref f))) (hf : PySem.W.typeIn X.K (.ref f) = some (.type "function"))
    (FL : FnOk X.prog X.w X.K X.mg X.base CX0 k f fd ["self"] sp) (bL : Binds X.K fd ["self"] []) (hr : Room (k + 1) X.A) :
    CallR X (.builtin "len") (fun xs H Q => ∃ a dx fs n, xs = [.ref a] ∧ H a = some (.ins C dx fs) ∧ sp [.ref a] H (fun v H' => v = .int (n : Nat) ∧ H' = H) E0 ∧ n < 2 ^ 63 ∧ Q (.int n) H) := by
  intro pins s σ H xs us Q I rv h
  obtain ⟨a, dx, fs, n, rfl, ha, hsp, hn, q⟩ := h
  obtain ⟨u, rfl, ru⟩ := rv.one
  cases ru
  exact len_in hl hf FL bL ⟨hr, rfl⟩ I ha hn hsp fun t s' I' => ⟨.int n, H, I', ⟨_, rfl⟩, q⟩
/-- at it: an iterator over the list at l -/
def ItX (l it : Addr) (i : Nat) : HO := .ext fun h => h.IsListIter it l i
def AnyO (a : Addr) : HO := .ext fun h => ∃ o, h.get? a = some o
theorem itX_ok {P : Program} {w : World} {H : Hp} {h : Heap} {l it : Addr} {i : Nat} (e : h.IsListIter it l i) : ObjOk P w H h it (ItX l it i) := by
  obtain ⟨o, e1, e2, e3⟩ := e
  exact ⟨⟨o, e1, e2, e3⟩, ⟨_, e1⟩, fun h1 h2 q k => by obtain ⟨o', q1, q2, q3⟩ := q; exact ⟨o', k _ q1, q2, q3⟩⟩
theorem anyO_ok {P : Program} {w : World} {H : Hp} {h : Heap} {a : Addr} (e : ∃ o, h.get? a = some o) : ObjOk P w H h a (AnyO a) :=
  ⟨e, e, fun h1 h2 q k => by obtain ⟨o', q1⟩ := q; exact ⟨o', k _ q1⟩⟩
theorem next_end2 {prog : Program} {w : World} {A : Around} {E : Value → Shared → Prop} {s : Shared} {it l : Addr} {i : Nat} {items} {Q : Option Value → Shared → Prop} (hh : A.handled = none)
    (hit : s.heap.IsListIter it l i) (hl : s.heap.IsList l items) (hx : items[i]? = none)
    (hQ : ∀ h', Heap.ExtBut it s.heap h' → (∃ o, h'.get? it = some o) → Q none { s with heap := h' }) : wpAny (model prog w) A (pyNext (.ref it)) Q E s := by
  obtain ⟨o, ho, hc, hd⟩ := id hit
  obtain ⟨ol, hol, _, nl, hdl⟩ := hl
  unfold pyNext
  refine wpAny_bind (wpAny_attempt (wpAny_callSpecial?_slot (name := Str.ofString "__next__") hit.typeIs slot_listiter_next
    (wpAny_call_entry slot_listiter_next hit.typeIs entry_listiter_next ?_ (args_listiter_next _))))
  show wpAny _ _ (field (.ref it) 0 >>= _) _ _ s
  refine wpAny_bind (wpAny_field ho hd (x := .ref l) rfl ?_)
  show wpAny _ _ (if (Value.ref l == Value.none) = true then _ else _) _ _ s
  rw [if_neg (show ¬ ((Value.ref l == Value.none) = true) from Bool.false_ne_true)]
  show wpAny _ _ (field (.ref it) 1 >>= _) _ _ s
  refine wpAny_bind (wpAny_field ho hd (x := .int i 0) rfl ?_)
  show wpAny _ _ (seqItems? (.ref l) >>= _) _ _ s
  refine wpAny_bind (wpAny_seqItems hol hdl ?_)
  simp only [Int.toNat_natCast, hx]
  refine wpAny_bind (wpAny_rule (wpAny_bind (wpAny_setField ho hd (by simp) ?_)))
  show wpAny _ _ (newExc (.type "StopIteration") [] >>= _) _ _ _
  refine wpAny_bind ?_
  simp only [newExc, newTuple]
  refine wpAny_bind (wpAny_newObj_type ?_ (by size_fits))
  refine wpAny_bind (m := firstArgMember _ _) (wpAny_of_eq (a := Value.none) (by first | rfl | (simp only [firstArgMember]; rfl)) ?_)
  refine wpAny_newObj_type ?_ (by size_fits)
  simp only [raiseNew]
  refine wpAny_bind (wpAny_handled ?_)
  rw [show A.in1.handled = none from hh]
  refine wpAny_bind (wpAny_pure (wpAny_throw ?_))
  refine wpAny_bind (wpAny_isInstance (T := "StopIteration") (b := true) ⟨_, Heap.get?_push_size _ rfl, rfl⟩ isSubtype_stop ?_)
  refine wpAny_pure (hQ _ (((Heap.SameBut.update ..).extBut.push _).push _) ⟨_, Heap.get?_push_of_some _ (Heap.get?_push_of_some _ (Heap.get?_update_self _ ho (Obj.isFreed_of_fields (Obj.data_mapFields hd _))))⟩)
theorem list_loop {A1 : Around} {it l q : Addr} {ys : List V} {H0 : Hp} {Rs : Result → Shared → Prop} (hh : A1.handled = none) (hil : l ≠ it) (hiq : q ≠ it) (hlq : l ≠ q) (hz : ys.length < sizeLine)
    (hdone : ∀ H s, Inv X pins σ H s → (∀ b, b ≠ it → b ≠ q → H b = H0 b) → H q = some (.lst ys) → Rs (.ok (.ret .none)) s) :
    ∀ (m i : Nat) (H : Hp) (s : Shared), m = ys.length - i → i ≤ ys.length → Inv X pins σ H s → (∀ b, b ≠ it → b ≠ q → H b = H0 b) → H l = some (.lst ys) → H it = some (ItX l it i) → H q = some (.lst (ys.take i)) →
      codeAny (model X.prog X.w) A1 (.builtin "list.extend.loop" ⟨[.ref q, .ref it, .none], []⟩) Rs s := by
  intro m
  induction m with
  | zero =>
    intro i H s hm hi I hk hl hit hq
    refine codeAny_builtin PySem.F.entry_extend_loop ?_
    rw [Around.under_plainId PySem.F.plain_extend_loop _]
    show wpAny _ A1.in1 (pyNext (.ref it) >>= _) _ _ s
    have hin : s.heap.IsListIter it l i := (I.hok it _ hit).1
    obtain ⟨its, rv, p, _⟩ := I.list (SqL.of hl)
    have hlen := rv.length
    refine wpAny_bind (next_end2 hh hin p.isList (by simp; omega) fun h' eb he => ?_)
    have I2 : Inv X pins σ (upd H it (AnyO it)) { s with heap := h' } := I.write (t' := s.toks) (x := it) (e := it) (o := AnyO it) (by rw [hit]; exact True.intro) (.inl rfl) (fun b o hb e => eb b o hb e) he (anyO_ok he)
    have ei : i = ys.length := by omega
    refine wpAny_pure (hdone _ _ I2 (fun b h1 h2 => by rw [upd_ne h1]; exact hk b h1 h2) ?_)
    rw [upd_ne hiq, hq, ei, List.take_length]
  | succ m ih =>
    intro i H s hm hi I hk hl hit hq
    refine codeAny_builtin PySem.F.entry_extend_loop ?_
    rw [Around.under_plainId PySem.F.plain_extend_loop _]
    show wpAny _ A1.in1 (pyNext (.ref it) >>= _) _ _ s
    have hin : s.heap.IsListIter it l i := (I.hok it _ hit).1
    obtain ⟨its, rv, p, _⟩ := I.list (SqL.of hl)
    have hlt : i < ys.length := by omega
    obtain ⟨u, hu, ru⟩ := rv.get (List.getElem?_eq_getElem hlt)
    refine wpAny_bind (wpAny_pyNext_list_item hin p.isList (x := u) (by simpa using hu) fun h' st' sb => ?_)
    obtain ⟨o', e1, _⟩ := id st'
    have I2 : Inv X pins σ (upd H it (ItX l it (i + 1))) { s with heap := h' } := I.write (t' := s.toks) (x := it) (e := it) (o := ItX l it (i + 1)) (by rw [hit]; exact True.intro) (.inl rfl) (fun b o hb e => (sb.2 b hb).trans e) ⟨_, e1⟩ (itX_ok st')
    have hq2 : upd H it (ItX l it (i + 1)) q = some (.lst (ys.take i)) := by rw [upd_ne hiq]; exact hq
    show wpAny _ A1.in1 (updateSeq q (·.push u) >>= _) _ _ _
    obtain ⟨z, its2, k, r2, hl2, e⟩ := I2.lstM hq2
    have hl3 : (ys.take i).length < sizeLine := by rw [List.length_take]; omega
    refine wpAny_bind (wpAny_updateSeq e rfl (wpAny_pure ⟨plainId_quiet PySem.F.plain_extend_loop _, ?_⟩) (by rw [List.size_toArray]; omega) (by show (its2.toArray.push u).size ≤ sizeLine + 1; rw [Array.size_push, List.size_toArray]; omega))
    have et : ys.take (i + 1) = ys.take i ++ [ys[i]] := by rw [List.take_add_one, List.getElem?_eq_getElem hlt]; rfl
    refine ih (i + 1) _ _ (by omega) hlt (I2.lset (ys := ys.take (i + 1)) (its' := its2 ++ [u]) (t' := s.toks) hq2 e (by simp) (by rw [et]; exact r2.append (.cons ru .nil)) (by rw [List.length_take]; omega)) (fun b h1 h2 => ?_) ?_ ?_ upd_same
    · rw [upd_ne h2, upd_ne h1]; exact hk b h1 h2
    · rw [upd_ne hlq, upd_ne hil]; exact hl
    · rw [upd_ne hiq.symm, upd_same]
theorem hint_own {A : Around} {k : Nat} {C fl a dx : Addr} {fs : List (Str × V)} {fd : FuncData} {sp : Sp} {n : Nat} {Q : Bool → Shared → Prop} {E' : Value → Shared → Prop} (hl : PySem.W.findIn X.K (.ref C) "__len__" = some (some (.ref fl))) (hf : PySem.W.typeIn X.K (.ref fl) = some (.type "function"))
    (FL : FnOk X.prog X.w X.K X.mg X.base CX0 k fl fd ["self"] sp) (bL : Binds X.K fd ["self"] []) (sb : Sub X (k + 1) A) (I : Inv X pins σ H s) (ha : H a = some (.ins C dx fs)) (hn : n < sizeLine)
    (hsp : sp [.ref a] H (fun v H' => v = .int n ∧ H' = H) E0) (h : ∀ b s', Inv X pins σ H s' → Q b s') : wpAny (model X.prog X.w) A (Builtin.List.listLengthHint (.ref a)) Q E' s := by
  obtain ⟨mA, J, _⟩ := ins_get I.hok ha
  obtain ⟨od, J, _⟩ := J.look
  unfold Builtin.List.listLengthHint
  refine wpAny_bind (wpAny_bind (J.type.here ((PySem.W.looks_findIn I.kIn hl).here ?_)))
  refine PySem.W.KFB.if_not rfl ?_
  refine PySem.W.KFB.if_so rfl ?_
  refine wpAny_bind (wpAny_rule ?_)
  have hs : sizeLine = 16777216 := sizeLine_eq
  refine wpAny_bind (wpAny_attempt (len_in hl hf FL bL sb I ha (by omega) hsp fun t s' I' => ?_))
  show wpAny _ _ (if Builtin.List.listTooLong (n : Int).toNat = true then _ else pure ((n : Int) != 0)) _ _ _
  have hz : Builtin.List.listTooLong (n : Int).toNat = false := notLongL (by rw [Int.toNat_natCast]; omega)
  rw [if_neg (by rw [hz]; exact Bool.false_ne_true)]
  exact wpAny_pure (h _ _ I')
theorem call_listOwn2 {k : Nat} {C fi fl : Addr} {fdI fdL : FuncData} {spI spL : Sp} (hit : PySem.W.findIn X.K (.ref C) "__iter__" = some (some (.ref fi))) (hiF : PySem.W.isFn X.K (.ref fi) = true)
    (hl : PySem.W.findIn X.K (.ref C) "__len__" = some (some (.ref fl))) (hf : PySem.W.typeIn X.K (.ref fl) = some (.type "function"))
    (FI : FnOk X.prog X.w X.K X.mg X.base CX0 k fi fdI ["self"] spI) (bI : Binds X.K fdI ["self"] []) (FL : FnOk X.prog X.w X.K X.mg X.base CX0 k fl fdL ["self"] spL) (bL : Binds X.K fdL ["self"] []) (hc : X.calm = true) (hr : Room (k + 3) X.A) :
    CallR X (.type "list") (fun xs H Q => ∃ a dx fs l ys, xs = [.ref a] ∧ H a = some (.ins C dx fs) ∧ H l = some (.lst ys) ∧ ys.length < sizeLine ∧
      (∀ H1, Same H H1 → spI [.ref a] H1 (fun v H' => ∃ it, v = .ref it ∧ H1 it = none ∧ H' = upd H1 it (ItO l it 0)) E0 ∧ spL [.ref a] H1 (fun v H' => v = .int (ys.length : Nat) ∧ H' = H1) E0) ∧
      ∀ q H', H q = none → Same H H' → H' q = some (.lst ys) → Q (.ref q) H') := by
  intro pins s σ H xs us Q I rv h
  obtain ⟨a, dx, fs, l, ys, rfl, ha, hL, hz, hsp, hq⟩ := h
  obtain ⟨u, rfl, ru⟩ := rv.one
  cases ru
  have sb : Sub X (k + 1) X.A.in1.in1 := (Sub.in1 (Sub.in1 (⟨hr, rfl⟩ : Sub X (k + 3) X.A)))
  have sb0 : Sub X k X.A.in1.in1 := sb.mono (Nat.le_succ _)
  refine callType_codes (Q₁ := fun obj s₁ => obj = .ref s.heap.objs.size ∧ s₁ = { s with heap := s.heap.push { cls := .type "list", data := .seq #[] } }) PySem.F.called_list (PySem.F.typeCall_list_1 _) PySem.F.entry_list_init
    (code_list_new _ ⟨rfl, rfl⟩) fun obj s₁ h₁ => ?_
  obtain ⟨rfl, rfl⟩ := h₁
  have hS : (s.heap.push { cls := .type "list", data := .seq #[] }).get? s.heap.objs.size = some { cls := .type "list", data := .seq #[] } := Heap.get?_push_size _ rfl
  refine ⟨⟨_, hS, rfl⟩, PySem.F.args_list_init_2 _ _, ?_⟩
  have fr : H s.heap.objs.size = none := I.hok.fresh (Nat.le_refl _)
  generalize hqe : s.heap.objs.size = q at *
  have I1 : Inv X pins σ (upd H q (.lst [])) { s with heap := s.heap.push { cls := .type "list", data := .seq #[] } } := by
    have := I.lnew (its := []) (ys := []) (t' := s.toks) .nil (Nat.zero_le _)
    rw [hqe] at this
    exact this
  show wpAny _ _ (do let old ← Builtin.List.listItems (.ref q); Builtin.List.listUpdate (.ref q) (fun _ => #[]); letGo old.toList.reverse; Builtin.List.listExtendWith (.ref q) (.ref a) .none) _ _ _
  refine wpAny_bind ?_
  unfold Builtin.List.listItems
  refine wpAny_bind (wpAny_seqItems hS rfl (wpAny_pure ?_))
  show wpAny _ _ (updateSeq q (fun _ => #[]) >>= fun _ => letGo (#[] : Array Value).toList.reverse >>= fun _ => Builtin.List.listExtendWith (.ref q) (.ref a) .none) _ _ _
  refine wpAny_bind (wpAny_updateSeq hS rfl ?_)
  have I2 := I1.lset (f := fun _ => #[]) (its := []) (its' := []) (ys := []) (t' := s.toks) upd_same hS rfl .nil (Nat.zero_le _)
  rw [upd_upd] at I2
  refine wpAny_bind (wpAny_letGo ?_)
  have s2 : Same H (upd H q (.lst [])) := fun b o e => by rw [upd_ne (ne_of_none e fr)]; exact e
  have ha2 := s2 _ _ ha
  have hne : q ≠ a := (ne_of_none ha fr).symm
  have hql : l ≠ q := ne_of_none hL fr
  obtain ⟨mA, J, _⟩ := ins_get I2.hok ha2
  obtain ⟨od, J, _⟩ := J.look
  obtain ⟨m0, hF⟩ := I2.fr
  unfold Builtin.List.listExtendWith
  refine wpAny_bind (J.type.here ?_)
  have h1 : Builtin.List.listSameRef (.ref q) (.ref a) = false := by simp [Builtin.List.listSameRef, hne]
  have h2 : (Value.ref C == Value.type "list") = false := rfl
  have h3 : (Value.ref C == Value.type "tuple") = false := rfl
  simp only [h1, h2, h3, Bool.or_false, Bool.false_eq_true, if_false]
  obtain ⟨hspI, hspL⟩ := hsp _ s2
  refine wpAny_bind (PySem.W.owit_iter hF I2.ok.mod.kin J hit hiF ?_)
  refine run_in sb0 FI bI I2 hspI fun u s' v H' I' rv q' => ?_
  obtain ⟨it, ev, hn, eH⟩ := q'
  subst ev
  subst eH
  cases rv
  have hin : s'.heap.IsListIter it l 0 := by
    have e := itO_get I' upd_same
    exact ⟨_, e, rfl, rfl⟩
  unfold PySem.W.OwitIt
  refine wpAny_bind (wpAny_typeOf hin.typeIs ?_)
  rw [slot_listiter_next.lookup]
  refine wpAny_pure ?_
  have qit : q ≠ it := ne_of_none (show upd H q (.lst []) q = some _ from upd_same) hn
  have lit : l ≠ it := ne_of_none (s2 _ _ hL) hn
  have ait : a ≠ it := ne_of_none ha2 hn
  -- the iterator, tracked by what is asked of it
  have I3 : Inv X pins σ (upd (upd H q (.lst [])) it (ItX l it 0)) s' := by
    have := I'.write (t' := s'.toks) (h' := s'.heap) (x := it) (e := it) (o := ItX l it 0) (by rw [upd_same]; exact True.intro) (.inl rfl) (fun _ _ _ e => e) (by obtain ⟨o, e, _⟩ := hin; exact ⟨o, e⟩) (itX_ok hin)
    rw [upd_upd] at this
    exact this
  have s3 : Same H (upd (upd H q (.lst [])) it (ItX l it 0)) := fun b o e => by rw [upd_ne (ne_of_none (s2 _ _ e) hn)]; exact s2 _ _ e
  obtain ⟨_, hspL3⟩ := hsp _ s3
  refine wpAny_bind (wpAny_holding (hint_own hl hf FL bL sb I3 (s3 _ _ ha) hz hspL3 fun b s4 I4 => ?_))
  have go : ∀ s5 : Shared, Inv X pins σ (upd (upd H q (.lst [])) it (ItX l it 0)) s5 →
      codeAny (model X.prog X.w) X.A.in1 (.builtin "list.extend.loop" ⟨[.ref q, .ref it, .none], []⟩) (wants (fun r s₂ => r = .none ∧ EP X pins σ Q (.ref q) s₂) X.xe) s5 := fun s5 I5 => by
    refine list_loop (H0 := H) (ys := ys) (show X.A.in1.handled = none from I.ok.hd hc) lit qit hql hz (fun H6 s6 I6 hk hq6 => ⟨rfl, .ref q, H6, I6, rfl, hq q H6 fr (fun b o e => ?_) hq6⟩) _ 0 _ s5 rfl (Nat.zero_le _) I5 (fun b h1 h2 => by rw [upd_ne h1, upd_ne h2]) (s3 _ _ hL) upd_same (by rw [upd_ne qit, upd_same]; rfl)
    rw [hk b (ne_of_none (s2 _ _ e) hn) (ne_of_none e fr)]
    exact e
  have hq4 : upd (upd H q (.lst [])) it (ItX l it 0) q = some (.lst []) := by rw [upd_ne qit, upd_same]
  obtain ⟨z, its, k3, r3, hl3, e3⟩ := I4.lstM hq4
  cases r3
  refine wpAny_ite_split (fun _ => ?_) (fun _ => wpAny_pure ⟨plainId_quiet PySem.F.plain_extend_loop _, go _ I4⟩)
  refine wpAny_bind (wpAny_rule ?_)
  refine wpAny_bind ?_
  show wpAny _ _ (updateSeq q (·.push .none) >>= fun _ => updateSeq q (·.pop)) _ _ _
  refine wpAny_bind (wpAny_updateSeq e3 rfl ?_)
  have I5 := I4.lset (f := (·.push Value.none)) (its' := [Value.none]) (ys := [.non]) (t' := s4.toks) hq4 e3 (by simp) (.cons rfl .nil) (by rw [List.length_singleton, sizeLine_eq]; decide)
  obtain ⟨z4, its4, k4, r4, hl4, e4⟩ := I5.lstM upd_same
  obtain ⟨u4, rfl, ru4⟩ := r4.one
  refine wpAny_updateSeq e4 rfl ?_ (by show 1 ≤ sizeLine; rw [sizeLine_eq]; decide) (by show 0 ≤ sizeLine + 1; exact Nat.zero_le _)
  refine wpAny_pure ⟨plainId_quiet PySem.F.plain_extend_loop _, go _ ?_⟩
  have I6 := I5.lset (f := (·.pop)) (its := [u4]) (its' := []) (ys := []) (t' := s4.toks) upd_same e4 (by rfl) .nil (Nat.zero_le _)
  rw [upd_upd] at I6
  have hH : upd (upd (upd H q (.lst [])) it (ItX l it 0)) q (.lst []) = upd (upd H q (.lst [])) it (ItX l it 0) := by
    funext b
    by_cases hb : b = q
    · rw [hb, upd_same, upd_ne qit, upd_same]
    · rw [upd_ne hb]
  rw [hH] at I6
  exact I6
end
end My

/-! Kit3 -/
/-! own exception classes over Exception (or over own classes over it) with an __init__ that stores -/
namespace My
open PySem PySem.Spec PyProof.Rows L2
abbrev exB : List Value := [.type "Exception", .type "BaseException", .type "object"]
theorem exB_has (Y : String) (bm : List Value) (h : PySem.W.excTail exB bm = true) : bm.contains (.type Y) = exB.contains (.type Y) := PySem.W.excTail_contains Y bm h
section
open Builtin Builtin.ObjectAttr
variable {prog : Program} {w : World} {A : Around} {R : Result → Shared → Prop} {hp : Heap} {g : Array GenState} {d : Drawn} {t : Nat} {os : OsState}
/-- the first field -/
theorem osaE {K : PySem.W.Frag} {nm : Str} {tk : Tok} {u : Value} {x C : Addr} {fv : Array Value} {cd : ClassData} {tl : List Value}
    (X : K.In hp) (ox : hp.get? x = some { cls := .ref C, data := .fields fv }) (ec : PySem.W.clsIn K C = some cd) (em : cd.mro = .ref C :: tl) (et : PySem.W.excTail exB tl = true) (hh : cd.hasDict = true) (no : PySem.W.findIn K (.ref C) nm = some none)
    (fin : ∀ h' tk' dx, (∀ b o, b ≠ x → hp.get? b = some o → h'.get? b = some o) → hp.objs.size ≤ dx → dx ≠ x → h'.get? x = some { cls := .ref C, dict := some dx, data := .fields fv } →
      h'.Ns1 dx (fun y => if y = nm then some u else none) → R (.ok (.ret .none)) ⟨h', g, d, tk', os⟩) :
    codeAny (model prog w) A (.call (.builtin "object.__setattr__") ⟨[.ref x, .str nm tk, u], []⟩) R ⟨hp, g, d, t, os⟩ := by
  have At : PySem.W.InstAt hp x { cls := .ref C, data := .fields fv } C none := ⟨ox, rfl, rfl, trivial⟩
  have SO := F.store_object
  have me : cd.mro.isEmpty = false := by rw [em]; rfl
  have mo : cd.mro.contains (.type "object") = true := by rw [em, List.contains_cons, exB_has _ _ et, show exB.contains (.type "object") = true by decide +kernel, Bool.or_true]
  have xs : x ≠ hp.objs.size := Nat.ne_of_lt (Heap.lt_size ox)
  have kind : PySem.W.Looks (model prog w) hp (isInstance (.ref x) (.type "object")) true := At.type.andThen (PySem.W.looks_mroIn X (by unfold PySem.W.mroIn; rw [ec, Option.bind_some, if_neg (by rw [me]; decide), mo]))
  refine codeAny_call_builtin SO.slot.plain SO.entry (@PySem.W.check_slot (model prog w) _ _ ⟨hp, g, d, t, os⟩ "object.__setattr__" "object" "__setattr__" (.ref x) [.str nm tk, u] [] _ SO.kind SO.split kind (SO.args (.ref x) (.str nm tk) u) ?_)
  have lm : PySem.W.Looks (model prog w) hp (mroOf (.ref C)) cd.mro := (PySem.W.looks_clsIn X ec).andThen .now
  have l0 : PySem.W.Looks (model prog w) hp (storeTaker? none) none := .now
  have lc : PySem.W.Looks (model prog w) hp (classData C) cd := PySem.W.looks_clsIn X ec
  rw [PySem.W.osa_eq, refuse_eq]
  refine wpAny_bind (wpAny_bind (At.type.at (wpAny_bind (lm.at ?_))))
  rw [em, refuseLoop_ref, PySem.W.excTail_pass _ (PySem.F.store_Exception.passes _) _ et]
  refine wpAny_pure (wpAny_bind (At.type.at (wpAny_bind ((PySem.W.looks_findIn X no).at (wpAny_bind (l0.at ?_))))))
  show wpAny _ _ (storeInOwnDict (.ref x) (.ref C) (.str nm tk) nm u false) _ _ _
  obtain ⟨_, _, _, _, _, hd, _, _, _, _, _⟩ := cd
  simp only at hh
  subst hh
  unfold storeInOwnDict ownDictForStores
  repeat (first | with_reducible refine PySem.HandSPX.store_in_new ?_ ?_ | with_reducible refine wpAny_loadPart_at ox ?_ | with_reducible refine lc.at ?_ | wp_step)
  · exact ⟨_, #[], _, (Heap.get?_update_ne _ _ _ _ xs.symm).trans (Heap.get?_push_at rfl rfl), rfl, fun e he => absurd he (by simp), fun _ => rfl⟩
  · intro h1 tk1 n1 s1
    have ox1 : (hp.push { cls := .type "dict", data := .dict #[] }).get? x = some { cls := .ref C, data := .fields fv } := Heap.get?_push_of_some _ ox
    exact fin h1 tk1 hp.objs.size (fun b o hb ho => (s1.2 b (Nat.ne_of_lt (Heap.lt_size ho))).trans ((Heap.get?_update_ne _ _ _ _ hb).trans (Heap.get?_push_of_some _ ho))) (Nat.le_refl _) xs.symm ((s1.2 x xs).trans (Heap.get?_update_self _ ox1 rfl)) n1
end
/-- what the written part says of such a class -/
structure OexE (K : PySem.W.Frag) (C : Addr) : Prop where
  row : ∃ nm q N bs bm sn sub ab col dd k0 k1 k2 k3 k5, K.lookup C = some (excClassObj nm q C N bs bm true sn sub ab col dd k0 k1 k2 k3 k5 "Exception.__new__") ∧ PySem.W.excTail exB bm = true
  sa : PySem.W.findIn K (.ref C) "__setattr__" = some (some (.builtin "object.__setattr__"))
  ex : PySem.W.subIn K (.ref C) (.type "BaseException") = some true
  ty : PySem.W.typeIn K (.ref C) = some (.type "type")
  kp : PySem.W.keepIn K (.ref C) = true
section
variable {X : Cx} {pins : List (Addr × Obj)} {σ : L2.St} {H : Hp} {s : Shared} {a C dx : Addr} {f : Str} {y : V} {u : Value} {Q : Unit → Shared → Prop} {E : Value → Shared → Prop} {A : Around}
theorem ost1E (T : OexE X.K C) (I : Inv X pins σ H s) (ha : H a = some (exo a C none)) (no : PySem.W.findIn X.K (.ref C) f = some none) (ry : RelV y u)
    (fin : ∀ dx s', H dx = none → dx ≠ a → Inv X pins σ (upd (upd H dx (exd dx [(f, y)])) a (exo a C (some dx))) s' → Q () s') : wpAny (model X.prog X.w) A (setAttr (.ref a) f u) Q E s := by
  obtain ⟨nm, q, N, bs, bm, sn, sub, ab, col, dd, k0, k1, k2, k3, k5, lk, tl⟩ := T.row
  have ec : PySem.W.clsIn X.K C = some { name := nm, bases := bs, mro := .ref C :: bm, ns := N, qualname := q, hasDict := true, slotNames := sn, subclasses := sub, abstract := ab, collection := col, hasDel := false } := by
    unfold PySem.W.clsIn; rw [lk] <;> rfl
  obtain ⟨t1, oa⟩ := exo_at I.hok ha
  obtain ⟨hp, g, d, t, os⟩ := s
  refine PySem.W.set_plain I.kIn (ox := { cls := .ref C, dict := none, data := .fields #[.ref t1, .none, .none, .none, .bool false, .none] }) (od := none) ⟨oa, rfl, rfl, trivial⟩ T.sa ?_
  refine osaE I.kIn oa ec rfl tl rfl no fun h1 tk1 dx kp big dxa hx1 hn1 => ?_
  have hdx : H dx = none := I.hok.fresh big
  have off : ∀ {b : Addr} {o : Obj}, hp.get? b = some o → b ≠ dx := fun {b o} e => Nat.ne_of_lt (Nat.lt_of_lt_of_le (Heap.lt_size e) big)
  have offa : ∀ {b : Addr}, H b = none → b ≠ a := fun {b} e z => by
    rw [z, ha] at e; cases e
  have U : Un X.fs [] H (upd (upd H dx (exd dx [(f, y)])) a (exo a C (some dx))) hp h1 := by
    constructor
    case keep => exact fun b o e n _ _ => kp b o (offa n) e
    case slot => exact fun b o e n _ _ => ⟨o.slots, kp b o (offa n) e⟩
    case free => exact fun b o e n _ => by rw [upd_ne (offa n), upd_ne (off e)]; exact n
    case there =>
      intro b o e _
      by_cases hb : b = a
      · subst hb; exact ⟨_, hx1⟩
      · exact ⟨o, kp b o hb e⟩
    case tups => exact fun b xs e => by rw [upd_ne (at_ne ha e exo_tup), upd_ne (ne_of_none e hdx)]; exact e
    case frzs => exact fun b o v e => by rw [upd_ne (at_ne ha e exo_frz), upd_ne (ne_of_none e hdx)]; exact e
    case tbls => exact fun b ps e => ⟨#[], by rw [upd_ne (at_ne ha e exo_tbl), upd_ne (ne_of_none e hdx), e]; simp⟩
  refine fin dx _ hdx dxa (I.un (t' := tk1) U fun b o e => ?_)
  by_cases hb : b = a
  · subst hb
    rw [upd_same] at e; cases e
    exact exo_ok hx1
  rw [upd_ne hb] at e
  by_cases hd : b = dx
  · subst hd
    rw [upd_same] at e; cases e
    exact exd_ok hn1 (relO_put (fs := []) ry fun _ => True.intro)
  rw [upd_ne hd] at e
  refine (I.hok b o e).stay (fun c v hc z => kp c v ?_ z) (fun c hc => ?_) fun c xs hc => ?_
  · rcases hc with hc | hc
    · rw [hc]; exact hb
    · exact at_ne ha hc exo_own
  · rw [upd_ne (at_ne ha hc exo_own), upd_ne (ne_of_none hc hdx)]; exact hc
  · rw [upd_ne (at_ne ha hc exo_tup), upd_ne (ne_of_none hc hdx)]; exact hc
end
/-- self.f = e within such an __init__: the first one -/
def tOst1 (K : PySem.W.Frag) (f : Str) (to te : TE) : TS := fun D σ H => te σ H fun y H1 => to σ H1 fun x H2 => ∃ a C : Addr, x = .ref a ∧ OexE K C ∧ PySem.W.findIn K (.ref C) f = some none ∧ H2 a = some (exo a C none) ∧
  ∀ dx, H2 dx = none → dx ≠ a → D.nx σ (upd (upd H2 dx (exd dx [(f, y)])) a (exo a C (some dx)))
theorem ps_ost1 {X : Cx} {o e : Expr} {to te : TE} {f : Str} {p' pos : Pos} (ho : PE X o to) (he : PE X e te) (hs : swapsWith e (some (.Attribute o f p')) pos.line X.env = pure false := by rfl) : PS X (.Assign [.Attribute o f p'] e pos) (tOst1 X.K f to te) := by
  refine ⟨fun pins s σ H D I h => plainObj_wpAny_Assign_Attribute (thn (he.run pins s σ H _ I h) fun v s1 ⟨y, H1, I1, r1, q1⟩ => thn (ho.run pins s1 σ H1 _ I1 q1) fun u s2 ⟨x, H2, I2, r2, a, C, ex, T, no, ea, q⟩ => ?_) hs⟩
  subst ex
  obtain rfl : u = Value.ref a := r2
  exact ost1E T I2 ea no r1 fun dx s' n ne J => ⟨σ, _, J, q dx n ne⟩
/-- raise C(e, ..) where C's __init__ keeps sp -/
def tMkE (C : Addr) (sp : Sp) (ta : TA) : L2.St → Hp → XK → Prop := fun σ H Q => ta σ H fun vs H1 => vs.length ≤ 1000 ∧ ∀ a, H1 a = none → sp (.ref a :: vs) (upd H1 a (exo a C none))
  (fun v H2 => v = .non ∧ ∃ (d : Addr) (fs : List (Str × V)), H2 a = some (exo a C (some d)) ∧ H2 d = some (exd d fs) ∧ H1 d = none ∧ Q (.ref C) (some d) (upd (del H2 a) d (.xd fs))) (fun _ _ _ => False)
theorem pmk_E {X : Cx} {e : Expr} {es : List Expr} {ta : TA} {p pos : Pos} {x : Str} {C fI : Addr} {k : Nat} {fd : FuncData} {ps : List Str} {sp : Sp} (T : OexE X.K C) (iC : PySem.W.findIn X.K (.ref C) "__init__" = some (some (.ref fI))) (tI : PySem.W.typeIn X.K (.ref fI) = some (.type "function"))
    (G : FnOk X.prog X.w X.K X.mg X.base CX0 k fI fd ps sp) (hr : Room (k + 1) X.A) (hb : Binds X.K fd ps []) (hg : Gl X x) (hm : X.mg x = some (.ref C)) (ha : PA X (e :: es) ta)
    (nd : (x == ("__debug__" : Str)) = false := by decide) (he : starEach (e :: es) X.env = (false, eval e X.env) :: starEach es X.env := by rfl) (hpl : (backTo pos (starEach es X.env)).any (·.1) = false := by rfl) :
    PMk X (.Call (.Name x p) (e :: es) [] pos) (tMkE C sp ta) := by
  intro pins s σ H Q I h
  obtain ⟨nm, q, N, bs, bm, sn, sub, ab, col, dd, k0, k1, k2, k3, k5, lk, tl⟩ := T.row
  refine wpAny_Call_Name_kw (ld_glob I hg hm ?_ nd)
  refine PySem.W.callWith_K (h₀ := X.base) I.ok.mod.kin T.kp (thn (ha.run pos pins s σ H _ I h) fun us s1 ⟨vs, H1, I1, r1, small, q1⟩ => ⟨I1.kIn, ?_⟩) he hpl
  show wpAny _ _ (call (.ref C) us) _ _ _
  obtain ⟨hp, g, dr, tk, os⟩ := s1
  have le1 : hp.objs.size ≤ hp.objs.size + 1 := Nat.le_succ _
  have hq := q1 (hp.objs.size + 1) (I1.hok.fresh le1)
  have up : ∀ b o, hp.get? b = some o → ((hp.push (PySem.W.kdv_tup us)).push (PySem.HandSPX.excO C hp.objs.size)).get? b = some o := fun b o z => Heap.get?_push_of_some _ (Heap.get?_push_of_some _ z)
  have top : ((hp.push (PySem.W.kdv_tup us)).push (PySem.HandSPX.excO C hp.objs.size)).get? (hp.objs.size + 1) = some (PySem.HandSPX.excO C hp.objs.size) := by heap_get
  have J : Inv X pins σ (upd H1 (hp.objs.size + 1) (exo (hp.objs.size + 1) C none)) ⟨(hp.push (PySem.W.kdv_tup us)).push (PySem.HandSPX.excO C hp.objs.size), g, dr, tk, os⟩ :=
    I1.laid (t' := tk) (a := hp.objs.size + 1) (o := exo (hp.objs.size + 1) C none) up le1 (exo_ok top)
  have rel : Vals (V.ref (hp.objs.size + 1) :: vs) (Value.ref (hp.objs.size + 1) :: us) := .cons rfl r1
  have ln : (Value.ref (hp.objs.size + 1) :: us).length = ps.length := by
    have z := rel.length
    rw [G.len _ _ _ _ hq] at z
    exact z.symm
  have lu : us.length ≤ sizeLine := by
    rw [← Paired.length r1, sizeLine_eq]; omega
  have bd : BindsTo (⟨(hp.push (PySem.W.kdv_tup us)).push (PySem.HandSPX.excO C hp.objs.size), g, dr, tk, os⟩ : Shared) fd ⟨Value.ref (hp.objs.size + 1) :: us, []⟩ (ps.zip (Value.ref (hp.objs.size + 1) :: us)) := by
    have z := hb _ (Value.ref (hp.objs.size + 1) :: us) J.kIn (by simpa using ln)
    simpa using z
  refine wpAny_call (PySem.HandSPX.call_own F.excBase_Exception (fun Y => exB_has Y bm tl) (I1.kIn _ _ lk) (PySem.W.looks_findIn I1.kIn iC) (fun self => PySem.W.bind_fn I1.kIn self tI) lu
    (codeAny_mono (G.run _ X.stack _ _ ⟨Value.ref (hp.objs.size + 1) :: us, []⟩ (Value.ref (hp.objs.size + 1) :: us) _ _ (fun _ _ _ => False) (hr.make C us []) (J.env0.make C us []) bd rel hq) fun r s' z => ?_))
  cases r with
  | error er => exact False.elim z
  | ok fl =>
    cases fl with
    | ret v =>
      obtain ⟨v', H2, os2, bare2, un2, hok2, rv, ev, d, fs, ea, ed, nd1, q2⟩ := z
      subst ev
      obtain ⟨h2, g2, d2, t2, os'⟩ := s'
      exact ⟨rv, mk_end (raises_own T.ex T.ty) I1 le1 up un2 hok2 os2 bare2 ea ed nd1 q2⟩
    | next => exact z.elim
    | brk => exact z.elim
    | cont => exact z.elim
end My

/-! Kit4 -/
/-! a list comprehension whose items may raise -/
namespace My
open PySem PySem.Spec PyProof.Rows L2
section
variable {M : Model} {A : Around} {E : Value → Shared → Prop} {s : Shared} {env : Env}
theorem comp_either {e : Expr} {scope : Scope} {pos : Pos} {mkAcc first : Sem Value} {g : Comprehension} {gs : List Comprehension} {cl : List (Str × Addr)} {Q : Value → Shared → Prop}
    (ec : clausesOf e = g :: gs) (ef : ∀ x, foldedSetIterable g.iter env x = pure x) (eo : closureFor scope env = pure cl) (hk : scope.kind = .function) (hn : ∀ x ∈ scope.names, x.2 = .local → scope.names.lookup x.1 = some .local)
    (h : wpAny M A first (fun x s1 => wpAny M A (pyIter x) (fun it s2 => wpAny M A mkAcc (fun acc s3 => wpAny M A (newFunctionEnv scope env.globals cl [] env.qual none .none (some env)) (fun ce s4 =>
      codeAny M A (.compStart e 0 it acc { ce with scope := relabel scope env }) (fun r s' => ∃ m, s'.heap.Ns ce.locals m ∧ ∀ h', Heap.SameBut ce.locals s'.heap h' →
        match r with | .ok _ => Q acc { s' with heap := h' } | .error x => wpAny M A (PySem.passOn "comprehension.variables-let-go" x { ce with scope := relabel scope env } : Sem Value) (fun _ _ => False) E { s' with heap := h' }) s4) E s3) E s2) E s1) E s) :
    wpAny M A (comprehension e scope env pos mkAcc false first none) Q E s := by
  unfold comprehension
  rw [eo, ec]
  refine wpAny_bind (wpAny_mono h (fun x s1 h1 => ?_) fun _ _ z => z)
  refine wpAny_bind (wpAny_standAt ?_)
  refine wpAny_bind (wpAny_of_eq (ef x) ?_)
  refine wpAny_bind (wpAny_holding (wpAny_mono h1 (fun it s2 h2 => ?_) fun _ _ z => z))
  refine wpAny_standIf ?_
  refine wpAny_bind (wpAny_mono h2 (fun acc s3 h3 => ?_) fun _ _ z => z)
  refine wpAny_bind (wpAny_pure ?_)
  refine wpAny_bind (wpAny_mono h3 (fun ce s4 h4 => ?_) fun _ _ z => z)
  dsimp only
  have loc : ∀ x ∈ (scope.names.filter fun x => (x.2 == .local || x.2 == .cell) && x.1 != (".0" : Str)).reverse, x.2 = .local → Env.kindOf { ce with scope := relabel scope env } x.1 = some .local :=
    fun x hx hl => lookup_relabel_local (hn x (List.mem_filter.mp (List.mem_reverse.mp hx)).1 hl)
  refine wpAny_holding (wpAny_bind (wpAny_attempt (wpAny_holding (wpAny_run (codeAny_mono h4 fun r s' hr => ?_)))))
  obtain ⟨m, ns, go⟩ := hr
  cases r with
  | ok f => exact wpAny_bind (wpAny_holding (wpAny_comp_letGo (cenv := { ce with scope := relabel scope env }) hk _ s' m loc ns fun h' m' _ sb => wpAny_pure (go h' sb)))
  | error x => exact wpAny_bind (wpAny_holding (wpAny_comp_letGo (cenv := { ce with scope := relabel scope env }) hk _ s' m loc ns fun h' m' _ sb => wpAny_mono (go h' sb) (fun _ _ z => z.elim) fun _ _ z => z))
end
theorem ns_up {h h' : Heap} {C : Addr} {m : Str → Option Value} (up : h.UpToSlots h') (n : h.Ns C m) : h'.Ns C m := by
  obtain ⟨o, es, ep, e, d, r⟩ := n
  obtain ⟨sl, e'⟩ := up C o e fun vs z => by rw [d] at z; cases z
  exact ⟨_, es, ep, e', d, r⟩
theorem note_frame {x : Value} {e1 e2 : Env} (h : e1.frame = e2.frame) : noteFrame x e1 = noteFrame x e2 := by
  unfold noteFrame PySem.frameOf; rw [h]
theorem frames_to {h h' B B' : Heap} : ∀ {l : List Env}, h.FunFrames B l → (∀ L ∈ frs l, h'.get? L = h.get? L ∧ (B.get? L = none → B'.get? L = none)) → h'.FunFrames B' l
  | [], _, _ => trivial
  | env :: l, f, k => by
    obtain ⟨hk, ⟨L, o, ef, nb, eo, nf⟩, r⟩ := f
    have hL : L ∈ frs (env :: l) := List.mem_filterMap.mpr ⟨env, List.mem_cons_self, ef⟩
    refine ⟨hk, ⟨L, o, ef, (k L hL).2 nb, (k L hL).1.trans eo, nf⟩, frames_to r fun b hb => k b ?_⟩
    obtain ⟨e', m, q⟩ := List.mem_filterMap.mp hb
    exact List.mem_filterMap.mpr ⟨e', List.mem_cons_of_mem _ m, q⟩
section
variable {X : Cx} {W : WX} {u : Value} {s : Shared}
/-- in the air of X, noted by its frame -/
def XH (X : Cx) (W : WX) (u : Value) (s' : Shared) : Prop :=
  ∃ (a : Addr) (B : Heap) (sI : Shared) (pins : List (Addr × Obj)) (σ : L2.St) (H : Hp) (cls : Value) (d : Option Addr), u = .ref a ∧ Inv X pins σ H sI ∧ (∀ b o, sI.heap.get? b = some o → b ∉ frs X.stack → B.get? b = some o) ∧ sI.heap.UpToSlots s'.heap ∧
    HandSPX.HeldZ B X.stack a (Zc cls d) X.env.locals s'.heap ∧ H a = none ∧ s'.os = sI.os ∧ AllBare s'.gens ∧ W cls d σ H
theorem XH.air (x : XH X W u s) : XE X W u s := by
  obtain ⟨a, B, sI, pins, σ, H, cls, d, e, I, nb, up, sky, r⟩ := x
  exact ⟨a, B, sI, pins, σ, H, cls, d, e, I, nb, up, .inr (.inr sky), r⟩
theorem XE.noted (hs : X.stack = X.env :: X.outer) (hf : X.env.frame = some X.env.locals) (x : XE X W u s) {E : Value → Shared → Prop} {Q : Unit → Shared → Prop} (k : ∀ h', s.heap.UpToSlots h' → XH X W u { s with heap := h' } → Q () { s with heap := h' }) :
    wpAny (model X.prog X.w) X.A (noteFrame u X.env) Q E s := by
  obtain ⟨a, B, sI, pins, σ, H, cls, d, rfl, I, nb, up, sky, na, os, ag, w⟩ := x
  have hfr : X.A.frames = some (X.env :: X.outer) := by rw [I.ok.frames, hs]
  have fin : ∀ h', HandSPX.HeldZ B (X.env :: X.outer) a (Zc cls d) X.env.locals h' → s.heap.UpToSlots h' → Q () { s with heap := h' } := fun h' hh up' =>
    k h' up' ⟨a, B, sI, pins, σ, H, cls, d, rfl, I, nb, up.trans up', by rw [hs]; exact hh, na, os, ag, w⟩
  rw [hs] at sky
  rcases sky with ⟨hB, hn, hl, oe, vs, he, hz, hd, h1⟩ | fl | hh
  · exact HandSPX.look_newZ Zc.steady hfr hl hf he hB hn hd h1 hz fin
  · exact HandSPX.looks_onZ Zc.steady hfr hf fl fin
  · exact HandSPX.againZ hf hh.2.2.2 (fin s.heap hh (Heap.UpToSlots.refl _))
/-- a namespace that nobody tracks changes -/
theorem XH.off {C : Addr} {h' : Heap} {m : Str → Option Value} (x : XH X (fun c d σ H => W c d σ H ∧ H C = none) u s) (ns : s.heap.Ns C m) (sb : Heap.SameBut C s.heap h') (c1 : C ≠ X.env.locals) (c2 : X.s_0.heap.objs.size ≤ C)
    (c3 : ∀ x c, X.env.cells.lookup x = some c → c ≠ C) (c4 : ∀ p ∈ X.pn, p.1 ≠ C) (c5 : C ∉ frs X.stack) : XH X W u { s with heap := h' } := by
  obtain ⟨a, B, sI, pins, σ, H, cls, d, rfl, I, nb, up, ⟨st, an, fr, oe, vs, t, ot, ts, ea, hz, ed, e1, nt, nta, et, edt, e3⟩, na, os, ag, w, hC⟩ := x
  have I0 : Inv X [] σ H sI := ⟨I.ok, I.os, I.bare, I.base, I.loc, I.cell, I.free, I.freeC, fun p hp => I.pin p (List.mem_append_left _ (by simpa using hp)), I.hok, I.len⟩
  obtain ⟨G, g1, g2⟩ := L2.restrict sI.heap fun b => decide (b ≠ C)
  obtain ⟨D, d1, d2⟩ := L2.restrict B fun b => decide (b ≠ C)
  have inG : ∀ b o, G.get? b = some o → sI.heap.get? b = some o ∧ b ≠ C := fun b o e => by
    by_cases hb : b = C
    · rw [g2 b (by simp [hb])] at e; cases e
    · exact ⟨(g1 b (by simp [hb])).symm.trans e, hb⟩
  have inD : ∀ b o, D.get? b = some o → B.get? b = some o ∧ b ≠ C := fun b o e => by
    by_cases hb : b = C
    · rw [d2 b (by simp [hb])] at e; cases e
    · exact ⟨(d1 b (by simp [hb])).symm.trans e, hb⟩
  have offD : ∀ b, B.get? b = none → D.get? b = none := fun b e => by
    cases q : D.get? b with
    | none => rfl
    | some o => rw [(inD b o q).1] at e; cases e
  have dat : ∀ b o vs, s.heap.get? b = some o → o.data = .fields vs → b ≠ C := fun b o vs e f z => by
    obtain ⟨o', es, ep, e', f', _⟩ := ns
    rw [z, e'] at e; cases e
    rw [f'] at f; cases f
  have I1 : Inv X [] σ H { sI with heap := G } := I0.turned (t' := sI.toks) (it := C) (fun b o hb e => (g1 b (by simp [hb])).trans e) hC c1 (.inr c2) c3 (by simpa using c4)
  refine ⟨a, D, { sI with heap := G }, [], σ, H, cls, d, rfl, I1, fun b o e hb => ?_, fun b o e nf => ?_, ⟨fun b o e => ?_, offD a an, ?_, oe, vs, t, ot, ts, ?_, hz, ed, e1, offD t nt, nta, ?_, edt, e3⟩, na, os, ag, w⟩
  · obtain ⟨e', hbC⟩ := inG b o e
    exact (d1 b (by simp [hbC])).trans (nb b o e' hb)
  · obtain ⟨e', hbC⟩ := inG b o e
    obtain ⟨sl, e2⟩ := up b o e' nf
    exact ⟨sl, (sb.2 b hbC).trans e2⟩
  · obtain ⟨e', hbC⟩ := inD b o e
    exact (sb.2 b hbC).trans (st b o e')
  · exact frames_to fr fun L hL => ⟨sb.2 L fun z => c5 (z ▸ hL), offD L⟩
  · exact (sb.2 a (dat a oe vs ea ed)).trans ea
  · exact (sb.2 t (dat t ot ts et edt)).trans et
/-- it is passed on -/
theorem XH.on {what : String} {ce : Env} (x : XH X W u s) (hc : ce.frame = some X.env.locals) (tk : Takes X W) : wpAny (model X.prog X.w) X.A (PySem.passOn what u ce : Sem Value) (fun _ _ => False) X.xe s := by
  obtain ⟨a, B, sI, pins, σ, H, cls, d, rfl, I, nb, up, ⟨st, an, fr, tr⟩, na, os, ag, w⟩ := x
  have tr' := tr
  obtain ⟨oe, vs, t, ot, ts, ea, hz, ed, e1, r⟩ := tr'
  unfold PySem.passOn
  refine wpAny_bind (wpAny_field ea ed e1 ?_)
  rw [if_neg (show ¬ ((Value.ref t == Value.none) = true) from by simp)]
  rw [hc]
  refine wpAny_bind (HandSPX.setFlight_anyZ st fr tr fun h' k1 k2 k3 k4 => wpAny_throw (tk _ _ ?_))
  exact ⟨a, B, sI, pins, σ, H, cls, d, rfl, I, nb, up.trans k4, .inr (.inr ⟨k1, an, k2, k3⟩), na, os, ag, w⟩
end
/-- [elt for tg in iter], an item may raise what E says -/
theorem pe_lcX {X : Cx} {elt tg iter : Expr} {scope : Scope} {own : List (Str × Nat)} {pos : Pos} {wi : TI} {g : TG} {te : TE} {E : XK} (hc : X.calm = true) (hN : X.N.Nodup) (hs : X.stack = X.env :: X.outer) (hf : X.env.frame = some X.env.locals)
    (tk : Takes X fun c d _ H => E c d H) (hi : PI X tg iter wi) (ok : BlkOk X.N X.env.scope scope own)
    (hg : ∀ (s : Shared) (H : Hp) (C : Addr) (cl : List (Str × Addr)) (fp : List Addr), PG (X.blk s H scope (compEnvC scope cl C X.env) fp) tg g)
    (he : ∀ (s : Shared) (H : Hp) (C : Addr) (cl : List (Str × Addr)) (fp : List Addr) (xe : Value → Shared → Prop), Passes (L2.CX X.prog X.w) ((X.blk s H scope (compEnvC scope cl C X.env) fp).wish xe) E → PE ((X.blk s H scope (compEnvC scope cl C X.env) fp).wish xe) elt te)
    (fs : ∀ x, foldedSetIterable iter X.env x = pure x := by intro _; rfl) : PE X (.ListComp elt [⟨tg, iter, [], 0⟩] scope pos) (tLc wi g tYes te (own.map (·.2))) := by
  refine ⟨fun pins s σ H Q I h => ?_⟩
  rw [eval_ListComp]
  have cells : ∀ y ∈ scope.names, y.2 = .free → ∃ c, X.env.cells.lookup y.1 = some c := fun y hy e => (ok.free y hy e).elim (fun k => I.ok.has _ (.inl k)) fun k => I.ok.has _ (.inr k)
  refine comp_either rfl fs (closure_ok cells) ok.kind (fun y hy e => by rw [ok.uniq y hy, e]) (thn (hi.run pins s σ H _ I h) fun xv s1 hx => thn hx fun itv s2 h2 => ?_)
  obtain ⟨it, fp, tn, J, H2, e, I2, T, st2, f2, q⟩ := h2
  subst e
  refine wpAny_newObj_type (newEnv_comp ?_) (by show 0 ≤ sizeLine; decide)
  -- the new list at D, the block's names at C
  have hDn : H2 s2.heap.objs.size = none := I2.hok.fresh (Nat.le_refl _)
  obtain ⟨W, ⟨m0, w0⟩, turn⟩ := q s2.heap.objs.size hDn
  have lay : ObjOk X.prog X.w (upd H2 s2.heap.objs.size (.lst [])) (s2.heap.push { cls := .type "list", data := .seq ([] : List Value).toArray }) s2.heap.objs.size (.lst []) := ⟨Nat.zero_le _, [], 0, .nil, Heap.get?_push_size _ rfl⟩
  have I3 : Inv X pins σ (upd H2 s2.heap.objs.size (.lst [])) { s2 with heap := s2.heap.push { cls := .type "list", data := .seq ([] : List Value).toArray } } := I2.laid (t' := s2.toks) (fun b o z => Heap.get?_push_of_some _ z) (Nat.le_refl _) lay
  have small : ∀ b ∈ fp, b < s2.heap.objs.size := fun b hb => by
    obtain ⟨o, z, _⟩ := T.obj _ _ st2 b hb
    exact Heap.lt_size z
  have f3 : ∀ b ∈ fp, FpOk X pins (upd H2 s2.heap.objs.size (.lst [])) b ∧ b < ({ s2 with heap := s2.heap.push { cls := .type "list", data := .seq ([] : List Value).toArray } } : Shared).heap.objs.size := fun b hb => by
    refine ⟨⟨?_, (f2 b hb).2⟩, ?_⟩
    · rw [upd_ne (Nat.ne_of_lt (small b hb))]; exact (f2 b hb).1
    · show b < (s2.heap.push _).objs.size
      rw [Heap.size_push]; exact Nat.lt_succ_of_lt (small b hb)
  have st3 : tn 0 (s2.heap.push { cls := .type "list", data := .seq ([] : List Value).toArray }) := T.keep _ _ _ st2 fun b _ o z => Heap.get?_push_of_some _ z
  generalize s2.heap.objs.size = D at *
  generalize hs3 : ({ s2 with heap := s2.heap.push { cls := .type "list", data := .seq ([] : List Value).toArray } } : Shared) = s3 at *
  have st3 : tn 0 s3.heap := by rw [← hs3]; exact st3
  have I4 := block_start I3 ok hN f3
  generalize hH3 : upd H2 D (.lst []) = H3 at *
  generalize hcl : cellsFrom (s3.heap.objs.size + 1) scope.names (cloFrom X.env.cells scope.names []) = cl at *
  have pg := hg s3 H3 s3.heap.objs.size cl fp
  have pe := he s3 H3 s3.heap.objs.size cl fp
  have cf : (compEnvC scope cl s3.heap.objs.size X.env).frame = X.env.frame := rfl
  have cL : (compEnvC scope cl s3.heap.objs.size X.env).locals = s3.heap.objs.size := rfl
  show codeAny _ _ (.compStart (.ListComp elt [⟨tg, iter, [], 0⟩] scope pos) 0 (.ref it) (.ref D) (compEnvC scope cl s3.heap.objs.size X.env)) (fun r s' => ∃ m, s'.heap.Ns s3.heap.objs.size m ∧ ∀ h', Heap.SameBut s3.heap.objs.size s'.heap h' →
    match r with | .ok _ => EP X pins σ Q (.ref D) { s' with heap := h' } | .error x => wpAny (model X.prog X.w) X.A (PySem.passOn "comprehension.variables-let-go" x (compEnvC scope cl s3.heap.objs.size X.env) : Sem Value) (fun _ _ => False) X.xe { s' with heap := h' }) { s3 with heap := pushCells (s3.heap.push { cls := .type "dict", data := .dict #[] }) scope.names }
  generalize compEnvC scope cl s3.heap.objs.size X.env = ce at *
  generalize hR : (fun (r : Result) (s' : Shared) => ∃ m, s'.heap.Ns s3.heap.objs.size m ∧ ∀ h', Heap.SameBut s3.heap.objs.size s'.heap h' →
    match r with | .ok _ => EP X pins σ Q (.ref D) { s' with heap := h' } | .error x => wpAny (model X.prog X.w) X.A (PySem.passOn "comprehension.variables-let-go" x ce : Sem Value) (fun _ _ => False) X.xe { s' with heap := h' }) = R
  generalize hs4 : ({ s3 with heap := pushCells (s3.heap.push { cls := .type "dict", data := .dict #[] }) scope.names } : Shared) = s4 at *
  have st4 : tn 0 s4.heap := T.keep _ _ _ st3 fun b _ o z => by rw [← hs4]; exact pushCells_keeps _ _ _ _ (Heap.get?_push_of_some _ z)
  have nfp : ∀ b ∈ fp, H3 b = none := fun b hb => (f3 b hb).1.1
  have stat : ∀ {σ' : L2.St} {H' : Hp} {s' : Shared}, Inv (X.blk s3 H3 scope ce fp) [] σ' H' s' → (∀ b ∈ fp, H' b = none) → ∀ b ∈ fp, FpOk (X.blk s3 H3 scope ce fp) [] H' b := fun {σ' H' s'} J hn b hb =>
    ⟨hn b hb, (J.ok.exf b hb).1, J.ok.exfs b hb, .inl hb, fun x c z => (J.ok.exf b hb).2 x c z, fun p hp => absurd (show p ∈ ([] : List (Addr × Obj)) ++ [] from hp) (by simp)⟩
  -- what the block leaves, in the def's own context
  have back : ∀ {pins' : List (Addr × Obj)} {σ' : L2.St} {H' : Hp} {s' : Shared}, Inv (X.blk s3 H3 scope ce fp) pins' σ' H' s' → Inv X pins σ H' s' ∧ (∃ m, s'.heap.Ns s3.heap.objs.size m) ∧ FpOk X pins H' s3.heap.objs.size := fun {pins' σ' H' s'} J => by
    have nC : H' s3.heap.objs.size = none := cL ▸ (J.free : H' ce.locals = none)
    obtain ⟨m, ns, _⟩ := J.loc
    refine ⟨I3.call' (ch := fp) J.os J.base J.hok J.bare fun b hb => ?_, ⟨m, cL ▸ (ns : s'.heap.Ns ce.locals m)⟩, I3.fpOk (Nat.le_refl _) nC⟩
    obtain ⟨_, b1, _, b3, b4, b5⟩ := (f3 b hb).1
    exact ⟨b3, b1, b4, b5⟩
  have frX : frs X.stack = X.env.locals :: X.fs := by rw [hs]; show frs (X.env :: X.outer) = _; unfold frs; rw [List.filterMap_cons, hf]; rfl
  have loop : codeAny (model X.prog X.w) X.A (.compLoop (.ListComp elt [⟨tg, iter, [], 0⟩] scope pos) 0 (.ref it) (.ref D) ce) R s4 := by
    refine compLoop_any (fun n s' => ∃ i H', Inv (X.blk s3 H3 scope ce fp) [] (wipe σ (own.map (·.2))) H' s' ∧ tn i s'.heap ∧ (∀ b ∈ fp, H' b = none) ∧ W i n H') ?_ m0 ⟨0, H3, I4, st4, nfp, w0⟩
    rintro n s5 ⟨i, H5, I5, st5, n5, w5⟩
    rcases turn i n H5 w5 with ⟨stop, qq⟩ | ⟨go, Nx, hNx, step⟩
    · refine thnF (T.done (X.blk s3 H3 scope ce fp) rfl rfl rfl hc i [] s5 _ H5 (fun _ _ => False) I5 (stat I5 n5) st5 stop) fun r s6 ⟨hr, I6⟩ => ?_
      subst hr
      obtain ⟨I7, ⟨m, ns⟩, _, b1, _, b3, b4, b5⟩ := back I6
      obtain ⟨nC, _⟩ := (back I6).2.2
      rw [← hR]
      exact ⟨m, ns, fun h' sb => ⟨.ref D, H5, I7.turned (t' := s6.toks) (fun b o hb z => (sb.2 b hb).trans z) nC b1 b3 b4 b5, rfl, qq⟩⟩
    refine thnF (T.item (X.blk s3 H3 scope ce fp) rfl rfl rfl hc i [] s5 _ H5 (fun _ _ => False) I5 (stat I5 n5) st5 go) fun r s6 ⟨u, hr, h6⟩ => ?_
    subst hr
    refine thnF h6 fun _ s7 ⟨x, H7, I7, r7, y7, st7, n7⟩ => ?_
    refine thnF (pg.run _ s7 _ H7 x u _ (I7.pinned (stat I7 n7) (T.obj _ _ st7)) r7 (step x H7 y7)) fun _ s8 ⟨σ8, H8, I8, hw8, q8⟩ => ?_
    refine thnF ((pts_nil (X := X.blk s3 H3 scope ce fp)).run _ s8 σ8 H8 _ I8 q8) fun b s9 ⟨H9, I9, q9⟩ => ?_
    have fin : ∀ {s' : Shared} {H' : Hp}, Inv (X.blk s3 H3 scope ce fp) ([] ++ pinsAt fp s7.heap) σ8 H' s' → Nx H' → ∃ m, m < n ∧ ∃ i H', Inv (X.blk s3 H3 scope ce fp) [] (wipe σ (own.map (·.2))) H' s' ∧ tn i s'.heap ∧ (∀ b ∈ fp, H' b = none) ∧ W i m H' := fun {s' H'} J nx => by
      obtain ⟨m', lt, w'⟩ := hNx H' nx
      have kept : ∀ b ∈ fp, ∀ o, s7.heap.get? b = some o → s'.heap.get? b = some o ∧ H' b = none := fun b hb o z => by
        have p := J.pin (b, o) (List.mem_append_right _ (List.mem_append_right _ (mem_pinsAt hb z)))
        exact ⟨p.1, p.2.1⟩
      have ln : (wipe σ (own.map (·.2))).length = σ8.length := by rw [← hw8, wipe_length]
      refine ⟨m', lt, i + 1, H', (J.unpinned (pins := [])).weak ln fun j v z => ?_, T.keep _ _ _ st7 fun b hb o z => (kept b hb o z).1, fun b hb => ?_, w'⟩
      · rw [← hw8] at z
        exact (wipe_some z).1
      · obtain ⟨o, z, _⟩ := T.obj _ _ st7 b hb
        exact (kept b hb o z).2
    cases b with
    | false =>
      rw [if_neg Bool.false_ne_true] at q9 ⊢
      exact fin I9 q9
    | true =>
      rw [if_pos rfl] at q9 ⊢
      have run := (pe (fun v s' => ∃ pins' σ' H' s0, Inv (X.blk s3 H3 scope ce fp) pins' σ' H' s0 ∧ L2.CX X.prog X.w X.stack H' s0 E v s') fun pins' σ' H' s0 v s' J c => ⟨pins', σ', H', s0, J.unwish, c⟩).run _ s9 σ8 H9 _ (I9.wish _) q9
      refine wpAny_mono run (fun z s10 ⟨yv, H10, J10, r10, acc, hD10, hz10, nx⟩ => ?_) fun v s' ⟨pins', σ', H', s0, J, c⟩ => ?_
      · exact wpAny_mono (app_ok (X := X.blk s3 H3 scope ce fp) (E := fun _ _ => False) J10.unwish hD10 hz10 r10 fun s11 I11 => fin I11 nx) (fun _ _ z => z) fun _ _ z => z.elim
      · obtain ⟨IX, ⟨m, ns0⟩, nC, b1, b2, b3, b4, b5⟩ := back J
        have notF : s3.heap.objs.size ∉ frs X.stack := by rw [frX]; intro z; rcases List.mem_cons.mp z with z | z; exact b1 z; exact b2 z
        obtain ⟨a, B, H'', cls, d, eu, fl, hok, ub, na, os, ag, hE⟩ := c
        have ns1 : s'.heap.Ns s3.heap.objs.size m := by
          obtain ⟨o, es, ep, eo, r⟩ := ns0
          exact ⟨o, es, ep, fl.1 _ _ (ub.keep _ o eo nC notF), r⟩
        have nC2 : H'' s3.heap.objs.size = none := by
          obtain ⟨o, es, ep, eo, r⟩ := ns0
          exact ub.free _ o eo nC
        have air : XE X (fun c d _ H => E c d H ∧ H s3.heap.objs.size = none) v s' := XE.of_call (E := fun c d H => E c d H ∧ H s3.heap.objs.size = none) IX (fun _ _ _ z => z) ⟨a, B, H'', cls, d, eu, fl, hok, ub, na, os, ag, hE, nC2⟩
        show wpAny _ _ (noteFrame v ce) _ _ _
        rw [note_frame cf, ← hR]
        exact XE.noted hs hf air fun h' up xh => ⟨m, ns_up up ns1, fun h2 sb => (xh.off (W := fun c d _ H => E c d H) (ns_up up ns1) sb b1 I3.sz b4 (fun p hp => b5 p (List.mem_append_left _ hp)) notF).on (cf.trans hf) tk⟩
  exact codeAny_compStart_list loop (T.self X.A 0 _ _ _ st4 loop)
end My

/-! Kit5 -/
namespace My
open PySem PySem.Spec PyProof.Rows L2
/-- o.m(..), what it may let out told at the slots -/
def tMethS (C : Addr) (m : Str) (sp : Sp) (E : L2.St → XK) (ta : TE) (t : TA) : TE := fun σ H Q => ta σ H fun x H1 => ∃ a dx fs, x = .ref a ∧ H1 a = some (.ins C dx fs) ∧ fs.lookup m = none ∧ t σ H1 fun vs H2 => sp (.ref a :: vs) H2 Q (E σ)
theorem pe_methS {X : Cx} {CX : CXT} {k : Nat} {f C : Addr} {fd : FuncData} {ps : List Str} {sp : Sp} {E : L2.St → XK} {m : Str} {pos apos : Pos} {o e : Expr} {es : List Expr} {ta : TE} {t : TA} {pl : Sem Bool} (he : PE X o ta) (c : Cls X.K C) (hm : Meth X.K C m f) (F : FnOk X.prog X.w X.K X.mg X.base CX k f fd ps sp) (hr : Room k X.A) (hb : Binds X.K fd ps []) (hx : ∀ σ, PassesAt CX X σ (E σ)) (ha : PA X (e :: es) t)
    (hst : starEach (e :: es) X.env = (false, eval e X.env) :: starEach es X.env := by rfl) (hpl : (backTo pos (starEach es X.env)).any (·.1) = false := by rfl)
    (ht : eval (.Call (.Attribute o m apos) (e :: es) [] pos) X.env = (do
      let ov ← eval o X.env; standAt apos.atName
      let (f, first) ← holding [ov] (getMethod ov m pl); callWith pos f first (backTo pos (starEach (e :: es) X.env)) (backToKw pos (keywordEach [] X.env))) := by rfl) :
    PE X (.Call (.Attribute o m apos) (e :: es) [] pos) (tMethS C m sp E ta t) := by
  refine ⟨fun pins s σ H Q I h => PySem.W.methodCall_KW (pl := pl) (thn (he.run pins s σ H _ I h) fun u s1 ⟨x, H1, I1, rx, a, dx, fs, ex, ea, l, q⟩ => ?_) ht⟩
  subst ex
  obtain rfl : u = Value.ref a := rx
  refine getmeth_ok I1 ea c hm l ?_
  exact PySem.W.callWith_K (first := [.ref a]) (h₀ := X.base) I.ok.mod.kin hm.kp (thn (ha.run pos pins s1 σ H1 _ I1 q) fun us s2 ⟨vs, H2, I2, r, q2⟩ => ⟨I2.kIn, run_fnS (us := .ref a :: us) (vs := .ref a :: vs) F hr hb (hx σ) I2 (.cons rfl r) q2⟩) hst hpl
/-- what an exception's __init__ leaves: the dict alone -/
theorem del_init {H : Hp} {a dx : Addr} {o o2 o3 o4 : HO} (ha : H a = none) (hne : dx ≠ a) : upd (del (upd (upd (upd H a o) dx o2) a o3) a) dx o4 = upd H dx o4 := by
  funext b
  by_cases h1 : b = dx
  · subst h1; rw [upd_same, upd_same]
  · rw [upd_ne h1, upd_ne h1]
    by_cases h2 : b = a
    · subst h2; rw [del_same, ha]
    · rw [del_ne h2, upd_ne h2, upd_ne h1, upd_ne h2]
/-- self.f = v in the __init__ of an exception -/
def sp_exinit (C : Addr) (f : Str) : Sp := fun vs H Q _ => ∃ (a : Addr) (v : V), vs = [.ref a, v] ∧ H a = some (exo a C none) ∧ ∀ dx, H dx = none → dx ≠ a → Q .non (upd (upd H dx (exd dx [(f, v)])) a (exo a C (some dx)))
theorem sp_exinit_len {C : Addr} {f : Str} {vs H Q E} (h : sp_exinit C f vs H Q E) : vs.length = 2 := by obtain ⟨_, _, rfl, _⟩ := h; rfl
/-- raise C(v): what the def's own way out must bear -/
theorem raiseE {C : Addr} {f : Str} {H : Hp} {v : V} {Q : XK} {R : XK} (k : ∀ d, H d = none → Q (.ref C) (some d) (upd H d (.xd [(f, v)]))) : ([v] : List V).length ≤ 1000 ∧ ∀ a, H a = none → sp_exinit C f (.ref a :: [v]) (upd H a (exo a C none))
    (fun u H2 => u = .non ∧ ∃ (d : Addr) (fs : List (Str × V)), H2 a = some (exo a C (some d)) ∧ H2 d = some (exd d fs) ∧ H d = none ∧ Q (.ref C) (some d) (upd (del H2 a) d (.xd fs))) R := by
  refine ⟨by show 1 ≤ 1000; decide, fun a ha => ⟨a, v, rfl, upd_same, fun dx hdx hne => ⟨rfl, dx, [(f, v)], upd_same, ?_, ?_, ?_⟩⟩⟩
  · rw [upd_ne hne, upd_same]
  · rw [upd_ne hne] at hdx; exact hdx
  · rw [del_init ha hne]
    rw [upd_ne hne] at hdx
    exact k dx hdx
/-- over a list or a tuple that stands at a name -/
def iSeq (i : Nat) : TI := fun σ H R => ∃ (a : Addr) (ys : List V), σ[i]? = some (some (.ref a)) ∧ (H a = some (.lst ys) ∨ H a = some (.tup ys)) ∧ ∀ (J : It) (G : Hp → Prop), Walk J ys.length G (YAt ys) → (∀ H' : Hp, H' a = H a → G H') → R J H
theorem pi_seq {X : Cx} {tg : Expr} (i : Nat) {x : Str} {pos : Pos} (hN : X.N[i]? = some x := by rfl) (hv : Vis X.env.scope x := by first | exact Or.inl rfl | exact Or.inr (Or.inl rfl) | exact Or.inr (Or.inr rfl)) (hd : (x == ("__debug__" : Str)) = false := by decide)
    (hcd : (x == ("__classdict__" : Str)) = false := by decide) : PI X tg (.Name x pos) (iSeq i) := by
  refine ⟨fun pins s σ H R I ⟨a, ys, e, h, k⟩ => ?_⟩
  rcases h with h | h
  · exact (pi_list (pv i hN hv hd hcd)).run pins s σ H R I ⟨_, e, a, rfl, ⟨ys, SqL.of h⟩, k _ _ walk_list fun H' q => SqL.of (q.trans h)⟩
  · exact (pi_tup (pv i hN hv hd hcd)).run pins s σ H R I ⟨_, e, a, rfl, ⟨ys, SqT.of h⟩, k _ _ walk_tup fun H' q => SqT.of (q.trans h)⟩
/-- isinstance(x, (list, tuple)) -/
theorem k_il : kitB "int" "list" = some false := by decide +kernel
theorem k_it : kitB "int" "tuple" = some false := by decide +kernel
theorem k_bl' : kitB "bool" "list" = some false := by decide +kernel
theorem k_bt : kitB "bool" "tuple" = some false := by decide +kernel
def Row (H : Hp) (a : Addr) (ys : List V) : Prop := H a = some (.lst ys) ∨ H a = some (.tup ys)
theorem Row.news {H H' : Hp} {a : Addr} {ys : List V} (h : Row H a ys) (s : Same H H') : Row H' a ys := h.elim (fun z => .inl (s _ _ z)) fun z => .inr (s _ _ z)
theorem Row.eq {H H' : Hp} {a : Addr} {ys : List V} (h : Row H a ys) (s : Same H H') : H' a = H a := by
  rcases h with z | z
  · rw [z]; exact s _ _ z
  · rw [z]; exact s _ _ z
end My

/-! Kit6 -/
/-! sorted(d), its keys ints, any number of them -/
namespace My
open PySem PySem.Spec PyProof.Rows L2
theorem keys_ints {us : List Value} {ks : List Int} {vs : List (Key × Value)} (hl : us.length = vs.length) (hk : vs.map (·.1) = ks.map Sum.inl)
    (h : ∀ (j : Nat) (v : Value), us[j]? = some v → ∃ (k : Key) (x : Value), vs[j]? = some (k, x) ∧ keyIs k v = true) : IntsAre us ks := by
  have e := keys_at hl h
  have e2 : (vs.map fun p => kV p.1) = ks.map V.int := by
    have := congrArg (List.map kV) hk
    rw [List.map_map, List.map_map] at this
    exact this
  rw [e2] at e
  exact e.ints
/-- a list of ints that was laid just now is sorted -/
theorem sort_fresh {X : Cx} {pins : List (Addr × Obj)} {σ : L2.St} {H : Hp} {s : Shared} {A : Around} {E : Value → Shared → Prop} {R : PySem.Fin → Shared → Prop} {vs : List Value} {ks : List Int} (I : Inv X pins σ H s) (hi : IntsAre vs ks) (hz : vs.length ≤ sizeLine)
    (k : ∀ (ys : List Int) (s' : Shared), ys.Perm ks → ys.Pairwise (· ≤ ·) → H s.heap.objs.size = none → Inv X pins σ (upd H s.heap.objs.size (.lst (ys.map V.int))) s' → R (.done (.ret .none)) s') :
    wpAny (model X.prog X.w) A (Builtin.«list.sort» ⟨[.ref s.heap.objs.size], []⟩) R E { s with heap := s.heap.push (seqObj "list" vs.toArray 0) } := by
  have ho : (s.heap.push (seqObj "list" vs.toArray 0)).get? s.heap.objs.size = some (seqObj "list" vs.toArray 0) := Heap.get?_push_size _ rfl
  refine SrtO.list_sort_ord (s := { s with heap := s.heap.push (seqObj "list" vs.toArray 0) }) SrtO.swo_int ho hz (fun h2 => SrtO.ints_sortable hi h2) fun out h1 h2 => ?_
  obtain ⟨k1, k2, k3⟩ := SrtO.ints_out hi h1 h2
  obtain ⟨ep, he⟩ := PyProof.Rows.sortedHeap_at (vs := vs) (out := out.toArray) ho
  have hn : ks.length = vs.length := by rw [← SrtO.iv_ints hi, List.length_map]
  have hlen : ((out.map SrtO.iv).map V.int).length ≤ sizeLine := by
    rw [List.length_map, k2.length_eq, hn]; exact hz
  refine k _ _ k2 k3 (I.hok.fresh (Nat.le_refl _)) (I.laid (t' := s.toks) (fun b u e => ?_) (Nat.le_refl _) (show ObjOk X.prog X.w _ _ _ (.lst ((out.map SrtO.iv).map V.int)) from ⟨hlen, out, ep, vals_of_ints k1, he⟩))
  have hb : b < s.heap.objs.size := Heap.lt_size e
  rw [PyProof.Rows.sortedHeap_old (Nat.ne_of_lt hb) (by rw [size_push']; exact Nat.lt_succ_of_lt hb)]
  exact Heap.get?_push_of_some _ e
theorem cr_sortedDA {X : Cx} (hcalm : X.calm = true) : CallR X (.builtin "sorted") (fun xs H Q => ∃ (a : Addr) (kvs : List (Key × V)) (ks : List Int), xs = [.ref a] ∧ Rd H a (.dK kvs) ∧ kvs.map (·.1) = ks.map Sum.inl ∧ ks.length ≤ sizeLine ∧
    ∀ (ys : List Int) (p : Addr), ys.Perm ks → ys.Pairwise (· ≤ ·) → H p = none → Q (.ref p) (upd H p (.lst (ys.map V.int)))) := by
  rintro pins s σ H xs us Q I r ⟨a, kvs, ks, rfl, hd, hks, hz, q⟩
  obtain ⟨u, rfl, rx⟩ := vals1 r
  cases rx
  obtain ⟨z, lo, vs, rel, dd⟩ := dk_rd I.hok hd
  obtain ⟨ep, hat⟩ := dd.dictAt
  have hkeys := rel.keys.symm.trans hks
  have hl : vs.length = ks.length := by simpa using congrArg List.length hkeys
  refine Calls.call_function_entry PyProof.Rows.kind_sorted PyProof.Rows.plain_sorted PyProof.Rows.entry_sorted (PyProof.Rows.args_sorted1 _) ?_
  unfold Builtin.«sorted»
  refine wpAny_bind (m := checkCount "sorted" 1 1 _) (wpAny_pure ?_)
  refine wpAny_bind (PySem.W.kdu_collect (A := X.A.in1) (PySem.W.kdl_dict (knd := mixKind X.prog X.w) (kvs := vs) (ep := ep) lo) (I.ok.hd hcalm) hat (by omega) fun h' tk acc hk hacc => ?_)
  have hal : acc.toList.length = vs.length := by rw [Array.length_toList, hacc.1]
  have hI := keys_ints hal hkeys fun j v e => hacc.2 j v (by rw [← Array.getElem?_toList]; exact e)
  have I1 : Inv X pins σ H { s with heap := h', toks := tk } := I.kept hk
  refine wpAny_bind (wpAny_newList ?_ (by omega))
  have hoL : (h'.push (seqObj "list" acc.toList.toArray 0)).get? h'.objs.size = some (seqObj "list" acc.toList.toArray 0) := Heap.get?_push_size _ rfl
  show wpAny _ _ _ _ _ { s with heap := h'.push (seqObj "list" acc.toList.toArray 0), toks := tk }
  refine wpAny_bind (wpAny_holding (wpAny_call_entry PyProof.Rows.slot_list_sort ⟨_, hoL, rfl⟩ PyProof.Rows.entry_list_sort (sort_fresh I1 hI (by omega) fun ys s' g1 g2 g3 J => ⟨_, rfl, ?_⟩) (PyProof.Rows.args_list_sort _)))
  exact wpAny_pure ⟨_, rfl, .ref _, _, J, rfl, q ys _ g1 g2 g3⟩
end My

/-! Kit7 -/
/-! several except clauses, some of them with a name -/
namespace My
open PySem PySem.Spec PyProof.Rows L2
abbrev TSX := Addr → Value → Option Addr → TS
/-- the ends of a suite whose name is at slot o, and the slots within -/
def outD (o : Option Nat) (D : Ends) : Ends := match o with | none => D | some i => { nx := fun σ' H' => D.nx (σ'.set i none) H', rt := D.rt, bk := fun σ' H' => D.bk (σ'.set i none) H', ct := fun σ' H' => D.ct (σ'.set i none) H' }
def inS (o : Option Nat) (a : Addr) (σ : L2.St) : L2.St := match o with | none => σ | some i => σ.set i (some (.ref a))
def wMix (K : PySem.W.Frag) (Wout : WX) (D : Ends) : List (Option Nat × Value × TSX) → WX
  | [] => Wout
  | (o, c, ts) :: r => fun cls d σ H => ∃ b, PySem.W.exmOne K cls c = some b ∧ (b = true → ∀ a, H a = none → ts a cls d (outD o D) (inS o a σ) H) ∧ (b = false → wMix K Wout D r cls d σ H)
/-- the name of a clause stands at its slot -/
def AtSlot (X : Cx) (o : Option Nat) (nm : Option Str) : Prop := match o, nm with
  | none, none => True
  | some i, some n => X.N[i]? = some n ∧ X.env.kindOf n = some .local
  | _, _ => False
inductive HdM (X : Cx) : List ExceptHandler → List (Option Nat × Value × TSX) → Prop
  | nil : HdM X [] []
  | cons {x : Str} {o : Option Nat} {nm : Option Str} {c : Value} {ts : TSX} {b₀ : Stmt} {suite : List Stmt} {np pos' : Pos} {hds : List ExceptHandler} {l : List (Option Nat × Value × TSX)} (hc : Names X x c) (hn : AtSlot X o nm)
      (hsu : ∀ (a : Addr) (oe : Obj) (cls : Value) (d : Option Addr) (pn : List (Addr × Obj)), Zc cls d oe → (∃ vs, oe.data = .fields vs) → PSs (X.suite a ((a, oe) :: pn)) (b₀ :: suite) (ts a cls d)) (r : HdM X hds l) :
      HdM X (.ExceptHandler (some (.Name x np)) nm (b₀ :: suite) pos' :: hds) ((o, c, ts) :: l)
section
variable {X : Cx} {body : List Stmt} {h₀ : ExceptHandler} {hds : List ExceptHandler} {l : List (Option Nat × Value × TSX)} {pos : Pos} {tb : WX → TS} {Wout : WX}
theorem ps_try_mix (hs : X.stack = X.env :: X.outer) (hf : X.env.frame = some X.env.locals) (hN : X.N.Nodup) (tk : Takes X Wout)
    (hb : ∀ (W : WX) (pn : List (Addr × Obj)) (xe : Value → Shared → Prop), Takes (X.tr pn xe) W → PassesOwn (model X.prog X.w) X.A X.env xe → PSs (X.tr pn xe) body (tb W))
    (hh : HdM X (h₀ :: hds) l) : PS X (.Try body (h₀ :: hds) [] [] pos) (fun D σ H => tb (wMix X.K Wout D l) D σ H) := by
  refine ⟨fun pins s σ H D I h => ?_⟩
  have ok := I.ok
  have hfr : X.A.frames = some (X.env :: X.outer) := by rw [ok.frames, hs]
  refine wpAny_Try_except ?_
  refine wpAny_mono ((hb (wMix X.K Wout D l) (X.pn ++ pins) (fun e s₁ => wpAny (model X.prog X.w) X.A (noteFrame e X.env) (fun _ s₂ => wpAny (model X.prog X.w) X.A (setFlight e none) (fun _ s₃ =>
    wpAny (model X.prog X.w) X.A (handleBy e X.env (h₀ :: hds)) (SP X pins D) X.xe s₃) X.xe s₂) X.xe s₁) (fun u s' xx => ?_) PassesOwn.looking).run [] s σ H D (I.toTry _) h) (fun f s1 hsp => ?_) (fun e s1 he => he)
  · obtain ⟨a, B, sI, pins', σ', H', cls, d, rfl, J', nb, up, sky, na, os, ag, w⟩ := xx
    have J : Inv X pins σ' H' sI := J'.ofTry ok
    have sky' : Sky B (X.env :: X.outer) a (Zc cls d) X.env.locals s'.heap := by rw [← hs]; exact sky
    show wpAny (model X.prog X.w) X.A (noteFrame (.ref a) X.env) _ _ _
    refine Sky.land Zc.steady hfr hf sky' fun h3 fl3 up3 => ?_
    have J3 : Inv X pins σ' H' { s' with heap := h3 } := J.landed nb fl3.1 (up.trans up3) os ag
    obtain ⟨oe3, vs3, he3, hz3, hd3⟩ := fl3.there
    -- the error is no frame's object
    have nfr : a ∉ frs (X.env :: X.outer) := fun hm => by
      obtain ⟨_, o', e', hnf⟩ := Heap.FunFrames.mem fl3.2.2.1 hm
      rw [he3] at e'; cases e'
      exact hnf _ hd3
    have nL : a ≠ X.env.locals := fun z => nfr (List.mem_filterMap.mpr ⟨X.env, List.mem_cons_self, by rw [hf, z]⟩)
    have nF : a ∉ X.fs := fun hm => by
      obtain ⟨e, he, q⟩ := List.mem_filterMap.mp hm
      exact nfr (List.mem_filterMap.mpr ⟨e, List.mem_cons_of_mem _ he, q⟩)
    have S3 := J3.suite he3 hd3 na nL nF
    have LT : PySem.W.Looks (model X.prog X.w) h3 (typeOf (.ref a)) cls := fun A Q E s k q => wpAny_typeOf_ref (k _ _ he3) (by rw [hz3.1]; exact q)
    have go : ∀ {hds' : List ExceptHandler} {l' : List (Option Nat × Value × TSX)}, HdM X hds' l' → wMix X.K Wout D l' cls d σ' H' →
        wpAny (model X.prog X.w) X.A (handleBy (.ref a) X.env hds') (SP X pins D) X.xe { s' with heap := h3 } := by
      intro hds' l' hk
      induction hk with
      | nil =>
        intro w
        refine wpAny_handleBy_nil ?_
        obtain ⟨k1, k2, k3, oe, vs, T, oT, ts', he, hz, hd, h1, hr⟩ := id fl3
        unfold PySem.passOn
        refine wpAny_bind (wpAny_field he hd h1 ?_)
        rw [if_neg (show ¬ ((Value.ref T == Value.none) = true) from by simp)]
        have last : wpAny (model X.prog X.w) X.A (setFlight (.ref a) X.env.frame) (fun _ s4 => wpAny (model X.prog X.w) X.A (throw (.ref a) : Sem Flow) (SP X pins D) X.xe s4) X.xe { s' with heap := h3 } := by
          rw [hf]
          refine HandSPX.setFlight_upZ fl3 fun h4 hh4 up4 => wpAny_throw (tk _ _ ?_)
          exact ⟨a, B, sI, pins, σ', H', cls, d, rfl, J, nb, (up.trans up3).trans up4, .inr (.inr (by rw [hs]; exact hh4)), na, os, ag, w⟩
        first
          | exact wpAny_bind (wpAny_pure (wpAny_bind last))
          | exact wpAny_bind last
      | @cons x o nm c ts b₀ suite np pos' hds2 l2 hc hn hsu r ih =>
        rintro ⟨b, hb1, hyes, hno⟩
        refine wpAny_handleBy_cons (codeAny_handlers_test ?_) (by intro q; cases q)
        have LM := PySem.W.exm_one (M := model X.prog X.w) (J3.kIn) LT hb1
        have test : ∀ {Q : Value → Shared → Prop} {E : Value → Shared → Prop}, Q c { s' with heap := h3 } → wpAny (model X.prog X.w) (X.A.mark (some (.ref a))) (eval (.Name x np) X.env) Q E { s' with heap := h3 } := fun {Q E} q => by
          obtain ⟨hg, hdbg, hm | ⟨hm, hv, hnn⟩⟩ := hc
          · exact ld_glob (X := X.suite a ((a, oe3) :: (X.pn ++ pins))) S3 hg hm q hdbg
          · exact ld_blt (X := X.suite a ((a, oe3) :: (X.pn ++ pins))) S3 hg hm hv q hnn hdbg
        refine test (LM.here ?_)
        cases b with
        | false => exact ih (hno rfl)
        | true =>
          cases o with
          | none =>
            cases nm with
            | some n => exact hn.elim
            | none =>
              refine codeAny_handlers_suite ?_
              refine HandSPX.lands_againZ fl3 fun h4 fl4 up4 => ?_
              have J4 : Inv X pins σ' H' { s' with heap := h4 } := J.landed nb fl4.1 ((up.trans up3).trans up4) os ag
              obtain ⟨oe4, vs4, he4, hz4, hd4⟩ := fl4.there
              refine wpAny_mono ((hsu a oe4 cls d (X.pn ++ pins) hz4 ⟨_, hd4⟩).run [] _ _ H' _ (J4.suite he4 hd4 na nL nF) (hyes rfl a na)) (fun f s6 hsp => ?_) (fun _ _ z => False.elim z)
              cases f with
              | ret u =>
                obtain ⟨v6, σ6, H6, S6, r6, q6⟩ := hsp
                exact ⟨_, _, _, S6.unsuite ok, r6, q6⟩
              | _ =>
                obtain ⟨σ6, H6, S6, q6⟩ := hsp
                exact ⟨_, _, S6.unsuite ok, q6⟩
          | some i =>
            cases nm with
            | none => exact hn.elim
            | some n =>
              obtain ⟨hi, hln⟩ := hn
              refine codeAny_handlers_suite_as ?_
              refine HandSPX.lands_againZ fl3 fun h4 fl4 up4 => ?_
              have J4 : Inv X pins σ' H' { s' with heap := h4 } := J.landed nb fl4.1 ((up.trans up3).trans up4) os ag
              obtain ⟨oe4, vs4, he4, hz4, hd4⟩ := fl4.there
              refine store_ok (X := X.suite a ((a, oe4) :: (X.pn ++ pins))) (v := .ref a) (J4.suite he4 hd4 na nL nF) hN hi (.inl hln) rfl (fun s5 S5 => ?_) (.inr hln)
              refine wpAny_mono ((hsu a oe4 cls d (X.pn ++ pins) hz4 ⟨_, hd4⟩).run [] s5 _ H' _ S5 (hyes rfl a na)) (fun f s6 hsp => ?_) (fun _ _ z => False.elim z)
              cases f with
              | ret u =>
                obtain ⟨v6, σ6, H6, S6, r6, q6⟩ := hsp
                exact gone_ok (S6.unsuite ok) hN hi hln fun s7 J7 => ⟨_, _, _, J7, r6, q6⟩
              | _ =>
                obtain ⟨σ6, H6, S6, q6⟩ := hsp
                exact gone_ok (S6.unsuite ok) hN hi hln fun s7 J7 => ⟨_, _, J7, q6⟩
    exact go hh w
  · cases f with
    | next =>
      obtain ⟨σ', H', J', q⟩ := hsp
      exact wpAny_execs_nil ⟨σ', H', J'.ofTry ok, q⟩
    | ret u =>
      obtain ⟨v, σ', H', J', r, q⟩ := hsp
      exact ⟨v, σ', H', J'.ofTry ok, r, q⟩
    | _ =>
      obtain ⟨σ', H', J', q⟩ := hsp
      exact ⟨σ', H', J'.ofTry ok, q⟩
end
end My

/-! Kit8 -/
/-! enumerate(row), the row a tuple or a list -/
namespace PySem
open Sem (wp)
open AutoSeq1 (wpAny_loadPart')
theorem my_enum_newT (l : Addr) (items : Array Value) (n : Nat) (dct : Option Addr) (sl : Array (Option Value)) :
    Meets (Builtin.«enumerate.__new__» ⟨[.type "enumerate", .ref l], []⟩) (fun _ R s => s.heap.get? l = some { cls := .type "tuple", dict := dct, data := .seq items n, slots := sl } ∧
      R (.ok (.ret (.ref (s.heap.push { cls := .type "tuple_iterator", data := .fields #[.ref l, .int 0 0] }).objs.size)))
        { s with heap := (s.heap.push { cls := .type "tuple_iterator", data := .fields #[.ref l, .int 0 0] }).push { cls := .type "enumerate", data := .fields #[.none, .bool false, .ref s.heap.objs.size, rawInt 0, .none, .none] } }) :=
  .of_wp fun prog w A R s h => by
    obtain ⟨hp, g, d, tk, os⟩ := s
    obtain ⟨hl, h⟩ := h
    have hsub := sub_enumerate
    have hT : Heap.IsTuple (Shared.heap ⟨hp, g, d, tk, os⟩) l items := ⟨_, hl, rfl, n, rfl⟩
    wp_walk using wpAny_loadPart' hl
    refine wpAny_stack_any fun st => wpAny_pure ?_
    split
    · rename_i c _ _ _ _ _
      cases (c == Value.type "enumerate")
      · wp_walk using wpAny_loadPart' hl, wpAny_pyIter_tuple hT
        exact ⟨_, rfl, h⟩
      · wp_walk using wpAny_loadPart' hl, wpAny_pyIter_tuple hT
        exact ⟨_, rfl, h⟩
    · wp_walk using wpAny_loadPart' hl, wpAny_pyIter_tuple hT
      exact ⟨_, rfl, h⟩
section
variable {prog : Program} {w : World} {A : Around} {E : Value → Shared → Prop} {s : Shared}
theorem my_enum_tuple {l : Addr} {items : Array Value} {Q : Value → Shared → Prop} (hL : s.heap.IsTuple l items)
    (h : ∀ h', IsEnum h' (s.heap.objs.size + 1) s.heap.objs.size 0 .none → h'.IsTupleIter s.heap.objs.size l 0 → (∀ b o, s.heap.get? b = some o → h'.get? b = some o) → Q (.ref (s.heap.objs.size + 1)) { s with heap := h' }) :
    wpAny (model prog w) A (call (.type "enumerate") [.ref l]) Q E s := by
  obtain ⟨⟨c, dct, dt, sl⟩, hl, hc, n, hd⟩ := hL
  replace hc : c = .type "tuple" := hc
  replace hd : dt = .seq items n := hd
  subst hc hd
  refine callType_new F.called_enumerate (by decide) (F.typeCall_enumerate_1 _) (F.newCall_enumerate_1 _) (fun obj => F.args_object_init_2 obj _) F.entry_enumerate_new (my_enum_newT l items n dct sl) ⟨hl, ?_⟩
  generalize hh : s.heap.push { cls := .type "tuple_iterator", data := .fields #[.ref l, .int 0 0] } = h1
  have hz : h1.objs.size = s.heap.objs.size + 1 := by rw [← hh]; exact Heap.size_push ..
  have it1 : h1.get? s.heap.objs.size = some { cls := .type "tuple_iterator", data := .fields #[.ref l, .int 0 0] } := by rw [← hh]; exact Heap.get?_push_size _ rfl
  have up1 : ∀ b o, s.heap.get? b = some o → h1.get? b = some o := fun b o x => by rw [← hh]; exact Heap.get?_push_of_some _ x
  show _ ∧ _
  rw [hz]
  have he : IsEnum (h1.push { cls := .type "enumerate", data := .fields #[.none, .bool false, .ref s.heap.objs.size, rawInt 0, .none, .none] }) (s.heap.objs.size + 1) s.heap.objs.size 0 .none := by
    have := Heap.get?_push_size h1 (o := { cls := .type "enumerate", data := .fields #[.none, .bool false, .ref s.heap.objs.size, rawInt 0, .none, .none] }) rfl
    rw [hz] at this; exact this
  exact ⟨⟨_, he, rfl⟩, h _ he ⟨_, Heap.get?_push_of_some _ it1, rfl, rfl⟩ fun b o x => Heap.get?_push_of_some _ (up1 b o x)⟩
end
end PySem
namespace My
open PySem PySem.Spec PyProof.Rows L2
theorem tup_ne_iter {h : Heap} {a it t : Addr} {i : Nat} {items : Array Value} (hT : h.IsTuple a items) (hit : h.IsTupleIter it t i) : a ≠ it := by
  obtain ⟨o, ho, hc, _⟩ := hit
  obtain ⟨o2, ho2, hc2, _⟩ := hT
  intro z
  rw [z, ho] at ho2
  cases ho2
  rw [hc] at hc2
  exact absurd (Value.type.inj hc2) (by decide)
/-- the tuple at a, each item in a new pair -/
def Itet (K : PySem.W.Frag) (a : Addr) : It :=
  ⟨fun i H => ∃ (xs : List V) (x : V), SqT K H a xs ∧ xs[i]? = some x, fun i H v H' => ∃ T x, v = .ref T ∧ H T = none ∧ H' = upd H T (.tup [.int (i : Nat), x]) ∧ ∀ xs, SqT K H a xs → xs[i]? = some x, fun i H => ∃ xs : List V, SqT K H a xs ∧ xs.length = i⟩
theorem turn_enumT {P : Program} {w : World} {K : PySem.W.Frag} {elts : List Expr} {kk : Nat} {tpos : Pos} (a e it : Addr) :
    Turn P w K (.Tuple elts kk tpos) (Itet K a) [e, it] e (fun i h => (∃ old, IsEnum h e it ((i : Nat) : Int) old) ∧ h.IsTupleIter it a i ∧ e ≠ it) where
  mem := by simp
  obj := fun i h st b hb => by
    obtain ⟨⟨old, he⟩, ⟨o, ho, hc, hd⟩, _⟩ := st
    rcases (show b = e ∨ b = it by simpa using hb) with z | z
    · rw [z]; exact ⟨_, he, fun v q => nomatch q⟩
    · rw [z]; exact ⟨o, ho, fun v q => by rw [hd] at q; cases q⟩
  keep := fun i h h' st k => let ⟨⟨old, he⟩, hi, hne⟩ := st; ⟨⟨old, k e (by simp) _ he⟩, hi.at fun o q => k it (by simp) o q, hne⟩
  item := by
    intro X hP hw hK hc i pins s σ H E I hf st hg
    subst hP hw hK
    obtain ⟨⟨old, he⟩, hit, hne⟩ := st
    obtain ⟨xs, x, hq, hx⟩ := hg
    obtain ⟨its, rv, p, hz⟩ := I.tuple hq
    have hT : s.heap.IsTuple a its.toArray := p
    obtain ⟨u, hu, ru⟩ := rv.get hx
    have hel : e < s.heap.objs.size := Heap.lt_size he
    have hil : it < s.heap.objs.size := by obtain ⟨_, q, _⟩ := hit; exact Heap.lt_size q
    have ane : a ≠ it := tup_ne_iter hT hit
    have ane2 : e ≠ a := by
      obtain ⟨o2, ho2, hc2, _⟩ := hT
      intro z
      rw [← z] at ho2
      have := he.symm.trans ho2
      cases this
      exact absurd (Value.type.inj hc2) (by decide)
    have hlt : i < its.toArray.size := by have := (List.getElem?_eq_some_iff.mp hu).1; simpa using this
    refine wpAny_pyNext_enum_itemD (Draws.tuple (A := X.A.in1) (I.ok.hd hc) it a ane its.toArray) he ⟨hit, hT⟩ hlt hne (by simp [hne, ane2]) fun x' h' tk hP' ho hit' hTp hsz hk => ?_
    have ex : x' = u := by
      have : its.toArray[i]? = some u := by simpa using hu
      exact Option.some.inj (hP'.symm.trans this)
    subst ex
    refine ⟨_, rfl, wpAny_letOwnedTupleGo_enum (s := { s with heap := h', toks := tk + 1 }) ho fun h'' he' sb => ?_⟩
    have hT2 : h''.get? s.heap.objs.size = some { cls := .type "tuple", data := .seq #[.int i tk, x'] } := (sb.2 _ (Nat.ne_of_gt hel)).trans hTp
    have new : ObjOk X.prog X.w (upd H s.heap.objs.size (.tup [.int (i : Nat), x])) h'' s.heap.objs.size (.tup [.int (i : Nat), x]) :=
      ⟨by show 2 ≤ sizeLine; decide, [.int i tk, x'], .cons ⟨_, rfl⟩ (.cons ru .nil), ⟨_, hT2, rfl, _, rfl⟩⟩
    have I1 : Inv X pins σ (upd H s.heap.objs.size (.tup [.int (i : Nat), x])) { s with heap := h'', toks := tk + 1 } :=
      I.turnedNew (ch := [e, it]) (fun b ob hb q => (sb.2 b (fun z => hb (by simp [z]))).trans (hk b ob (fun z => hb (by simp [z])) (fun z => hb (by simp [z])) q)) hf (Nat.le_refl _) new
    refine ⟨.ref s.heap.objs.size, _, I1, rfl, ⟨_, x, rfl, I.hok.fresh (Nat.le_refl _), rfl, fun ys hy => by rw [I.tuple_inj hy hq]; exact hx⟩, ⟨⟨x', ?_⟩, hit'.1.at fun o q => (sb.2 it (Ne.symm hne)).trans q, hne⟩, fun b hb => ?_⟩
    · have e1 : ((i + 1 : Nat) : Int) = (i : Int) + 1 := by omega
      rw [e1]; exact he'
    · have hb' : b < s.heap.objs.size := by
        rcases (show b = e ∨ b = it by simpa using hb) with z | z
        · rw [z]; exact hel
        · rw [z]; exact hil
      rw [upd_ne (Nat.ne_of_lt hb')]
      exact (hf b hb).1
  done := by
    intro X hP hw hK hc i pins s σ H E I hf st hg
    subst hP hw hK
    obtain ⟨⟨old, he⟩, hit, hne⟩ := st
    obtain ⟨xs, hq, hx⟩ := hg
    obtain ⟨its, rv, p, hz⟩ := I.tuple hq
    have hT : s.heap.IsTuple a its.toArray := p
    obtain ⟨f0, f1, f2, f3, f4, f5⟩ := hf it (by simp)
    have hl := rv.length
    have ane : a ≠ it := tup_ne_iter hT hit
    have hi : i = its.toArray.size := by rw [List.size_toArray]; omega
    subst hi
    exact wpAny_pyNext_enum_endD (Draws.tuple (A := X.A.in1) (I.ok.hd hc) it a ane its.toArray) he ⟨hit, hT⟩ fun h' eb => ⟨rfl, I.turned (t' := s.toks) (fun b o hb q => eb b o hb q) f0 f1 f3 f4 f5⟩
  self := fun A i s Q E st h => let ⟨⟨_, he⟩, _⟩ := st; wpAny_pyIter_enum he h
theorem walk_enumT {K : PySem.W.Frag} {a : Addr} {xs : List V} : Walk (Itet K a) xs.length (fun H => SqT K H a xs) (YPair (fun i => some (.int (i : Nat))) (fun i => xs[i]?)) := by
  refine ⟨fun i _ hi q => ⟨xs, xs[i], q, by simp [hi]⟩, fun _ q => ⟨xs, q, rfl⟩, fun i H v H' _ q y => ?_⟩
  obtain ⟨T, x, h1, h2, h3, h4⟩ := y
  exact ⟨T, .int (i : Nat), x, h1, h2, h3, rfl, h4 xs q⟩
/-- over enumerate(row) -/
def iEnS (ta : TA) : TI := fun σ H R => ta σ H fun vs H1 => ∃ (a : Addr) (xs : List V), vs = [.ref a] ∧ Row H1 a xs ∧ ∀ (J : It) (G : Hp → Prop), Walk J xs.length G (YPair (fun i => some (.int (i : Nat))) (fun i => xs[i]?)) → (∀ H' : Hp, H' a = H1 a → G H') → R J H1
theorem pi_enS {X : Cx} {e : Expr} {ta : TA} {p pos tpos : Pos} {elts : List Expr} {kk : Nat} (hg : Gl X "enumerate") (hm : X.mg "enumerate" = none) (ha : PA X [e] ta) (hs : starEach [e] X.env = [(false, eval e X.env)] := by rfl) :
    PI X (.Tuple elts kk tpos) (.Call (.Name "enumerate" p) [e] [] pos) (iEnS ta) := by
  refine ⟨fun pins s σ H R I h => ?_⟩
  refine Call_ (ld_blt I hg hm boot_enumerate (PyProof.Rows.callWith_type1 (thn (ha.run pos pins s σ H _ I h) fun us s1 ⟨vs, H1, I1, r1, q1⟩ => ?_) hs rfl))
  obtain ⟨a, xs, rfl, hr, q⟩ := q1
  obtain ⟨u, rfl, ru⟩ := vals1 r1
  cases ru
  rcases hr with hr | hr
  · obtain ⟨its, rv, p', hz⟩ := I1.list (SqL.of hr)
    refine call_enumerate_list p'.isList fun h' he hit hsz hk => wpAny_pyIter_enum he ?_
    have I2 : Inv X pins σ H1 { s1 with heap := h' } := I1.kept (t' := s1.toks) hk
    refine ⟨s1.heap.objs.size + 1, [s1.heap.objs.size + 1, s1.heap.objs.size], _, _, H1, rfl, I2, turn_enum a (s1.heap.objs.size + 1) s1.heap.objs.size, ⟨⟨.none, he⟩, hit, Nat.succ_ne_self _⟩, fun b hb => ?_, q _ _ walk_enum fun H' e => SqL.of (e.trans hr)⟩
    have hle : s1.heap.objs.size ≤ b := by
      rcases (show b = s1.heap.objs.size + 1 ∨ b = s1.heap.objs.size by simpa using hb) with z | z
      · rw [z]; exact Nat.le_add_right _ _
      · rw [z]; exact Nat.le_refl _
    exact I1.fpOk hle (I1.hok.fresh hle)
  · obtain ⟨its, rv, p', hz⟩ := I1.tuple (SqT.of hr)
    refine my_enum_tuple (show s1.heap.IsTuple a its.toArray from p') fun h' he hit hk => wpAny_pyIter_enum he ?_
    have I2 : Inv X pins σ H1 { s1 with heap := h' } := I1.kept (t' := s1.toks) hk
    refine ⟨s1.heap.objs.size + 1, [s1.heap.objs.size + 1, s1.heap.objs.size], _, _, H1, rfl, I2, turn_enumT a (s1.heap.objs.size + 1) s1.heap.objs.size, ⟨⟨.none, he⟩, hit, Nat.succ_ne_self _⟩, fun b hb => ?_, q _ _ walk_enumT fun H' e => SqT.of (e.trans hr)⟩
    have hle : s1.heap.objs.size ≤ b := by
      rcases (show b = s1.heap.objs.size + 1 ∨ b = s1.heap.objs.size by simpa using hb) with z | z
      · rw [z]; exact Nat.le_add_right _ _
      · rw [z]; exact Nat.le_refl _
    exact I1.fpOk hle (I1.hok.fresh hle)
end My

/-! KitL1 -/
/-! list(x), x an iterator whose items are new pairs that stay (enumerate, zip) -/
namespace PySem.W
open PySem PySem.Calls PyProof.Rows PyProof.V PySem.Spec
theorem enumerate_no_len : typeLookup (.type "enumerate") "__len__" = pure none := by rw [typeLookup_type, builtinLookup_eq_fast]; kernel_rfl
theorem enumerate_no_hint : typeLookup (.type "enumerate") "__length_hint__" = pure none := by rw [typeLookup_type, builtinLookup_eq_fast]; kernel_rfl
theorem zip_no_len : typeLookup (.type "zip") "__len__" = pure none := by rw [typeLookup_type, builtinLookup_eq_fast]; kernel_rfl
theorem zip_no_hint : typeLookup (.type "zip") "__length_hint__" = pure none := by rw [typeLookup_type, builtinLookup_eq_fast]; kernel_rfl
/-- the addresses as hold the pairs, in order, as tuples; they lie above lo and rise -/
structure PlG (Rel : Nat → Value → Value → Prop) (lo : Addr) (h : Heap) (as : List Addr) : Prop where
  rise : as.Pairwise (· < ·)
  above : ∀ a ∈ as, lo < a
  pairs : ∀ (j : Nat) (a : Addr), as[j]? = some a → ∃ k v, Rel j k v ∧ h.get? a = some { cls := .type "tuple", data := .seq #[k, v] }
theorem PlG.there {Rel : Nat → Value → Value → Prop} {lo : Addr} {h : Heap} {as : List Addr} (g : PlG Rel lo h as) {a : Addr} (ha : a ∈ as) : a < h.objs.size := by
  obtain ⟨j, hj⟩ := List.mem_iff_getElem?.mp ha
  obtain ⟨_, _, _, e⟩ := g.pairs j a hj
  exact Heap.lt_size e
/-- an iterator whose n items are new pairs, while at S a list grows -/
structure LSrc (prog : Program) (w : World) (A : Around) (I S : Addr) (wr : List Addr) (n : Nat) (Rel : Nat → Value → Value → Prop) (St : Nat → Heap → Prop) : Prop where
  low : ∀ b ∈ wr, b < S
  frame : ∀ i h h', St i h → (∀ b o, b ≠ S → h.get? b = some o → h'.get? b = some o) → St i h'
  item : ∀ i (s : Shared) (Q : Option Value → Shared → Prop) (E : Value → Shared → Prop), i < n → St i s.heap → S < s.heap.objs.size →
    (∀ k v h' tk, Rel i k v → h'.get? s.heap.objs.size = some { cls := .type "tuple", data := .seq #[k, v] } → St (i + 1) h' → (∀ b o, b ∉ wr → s.heap.get? b = some o → h'.get? b = some o) → Q (some (.ref s.heap.objs.size)) { s with heap := h', toks := tk }) →
    wpAny (model prog w) A (pyNext (.ref I)) Q E s
  done : ∀ (s : Shared) (Q : Option Value → Shared → Prop) (E : Value → Shared → Prop), St n s.heap →
    (∀ h' tk, (∀ b o, b ∉ wr → s.heap.get? b = some o → h'.get? b = some o) → Q none { s with heap := h', toks := tk }) → wpAny (model prog w) A (pyNext (.ref I)) Q E s
section
variable {prog : Program} {w : World} {A : Around} {s : Shared} {R : Result → Shared → Prop} {I S : Addr} {wr : List Addr} {n : Nat} {Rel : Nat → Value → Value → Prop} {St : Nat → Heap → Prop}
theorem LSrc.off (L : LSrc prog w A I S wr n Rel St) : S ∉ wr := fun z => Nat.lt_irrefl _ (L.low S z)
theorem LSrc.over (L : LSrc prog w A I S wr n Rel St) {b : Addr} (hb : S < b) : b ∉ wr := fun z => Nat.lt_irrefl _ (Nat.lt_trans hb (L.low b z))
theorem pl_loop (L : LSrc prog w A.in1 I S wr n Rel St) (hn : n ≤ sizeLine) (res : Value) {h₁ : Heap}
    (hR : ∀ h' tk acc c as, (∀ b o, b ≠ S → b ∉ wr → h₁.get? b = some o → h'.get? b = some o) → h'.get? S = some { cls := .type "list", dict := none, data := .seq acc c, slots := #[] } → as.length = n → PlG Rel S h' as →
      acc.toList = as.map Value.ref → R (.ok (.ret res)) { s with heap := h', toks := tk }) :
    ∀ (k i : Nat) (h : Heap) (tk c : Nat) (acc : Array Value) (as : List Addr), n - i = k → i ≤ n → St i h → (∀ b o, b ≠ S → b ∉ wr → h₁.get? b = some o → h.get? b = some o) →
      h.get? S = some { cls := .type "list", dict := none, data := .seq acc c, slots := #[] } → acc.toList = as.map Value.ref → as.length = i → PlG Rel S h as →
      codeAny (model prog w) A (.builtin "list.extend.loop" ⟨[.ref S, .ref I, res], []⟩) R { s with heap := h, toks := tk } := by
  intro k
  induction k with
  | zero =>
    intro i h tk c acc as hk hi hst hkeep hS hacc hal hG
    have hin : i = n := by omega
    subst hin
    refine codeAny_builtin PySem.F.entry_extend_loop ?_
    rw [Around.under_plainId PySem.F.plain_extend_loop _]
    show wpAny _ A.in1 (pyNext (.ref I) >>= _) _ _ _
    refine wpAny_bind (L.done { s with heap := h, toks := tk } _ _ hst fun h' tk' he => ?_)
    refine wpAny_pure (hR h' tk' acc c as (fun b o h1 h2 e => he b o h2 (hkeep b o h1 h2 e)) (he S _ L.off hS) hal ⟨hG.rise, hG.above, fun j a hj => ?_⟩ hacc)
    obtain ⟨kk, v, r, e3⟩ := hG.pairs j a hj
    exact ⟨kk, v, r, he a _ (L.over (hG.above a (List.mem_of_getElem? hj))) e3⟩
  | succ k ih =>
    intro i h tk c acc as hk hi hst hkeep hS hacc hal hG
    have hlt : i < n := by omega
    have hsz : acc.size = i := by rw [← Array.length_toList, hacc, List.length_map, hal]
    have hSl : S < h.objs.size := Heap.lt_size hS
    refine codeAny_builtin PySem.F.entry_extend_loop ?_
    rw [Around.under_plainId PySem.F.plain_extend_loop _]
    show wpAny _ A.in1 (pyNext (.ref I) >>= _) _ _ _
    refine wpAny_bind (L.item i { s with heap := h, toks := tk } _ _ hlt hst hSl fun kk v h' tk' hrel ht hst' hkp => ?_)
    dsimp only at ht hkp ⊢
    have hS' := hkp S _ L.off hS
    have up : ∀ b o, b ≠ S → h'.get? b = some o → (h'.update S (Obj.mapSeq (·.push (Value.ref h.objs.size)))).get? b = some o := fun b o hb e => (Heap.get?_update_other _ _ (Ne.symm hb)).trans e
    show wpAny _ A.in1 (updateSeq S (·.push (Value.ref h.objs.size)) >>= _) _ _ _
    refine wpAny_bind ?_
    refine wpAny_updateSeq hS' rfl (wpAny_pure ⟨plainId_quiet PySem.F.plain_extend_loop _, ih (i + 1) _ tk' _ (acc.push (Value.ref h.objs.size)) (as ++ [h.objs.size]) (by omega) hlt (L.frame _ _ _ hst' fun b o hb e => up b o hb e)
      (fun b o h1 h2 e => up b o h1 (hkp b o h2 (hkeep b o h1 h2 e))) (Heap.get?_update_self _ hS' rfl) (by rw [Array.toList_push, hacc, List.map_append]; rfl) (by rw [List.length_append, hal]; rfl) ⟨?_, ?_, ?_⟩⟩) (by rw [hsz]; omega) (by show (acc.push (Value.ref h.objs.size)).size ≤ sizeLine + 1; rw [Array.size_push, hsz]; omega)
    · refine List.pairwise_append.mpr ⟨hG.rise, List.pairwise_singleton _ _, fun a ha b hb => ?_⟩
      rw [List.mem_singleton.mp hb]
      exact hG.there ha
    · intro a ha
      rcases List.mem_append.mp ha with ha | ha
      · exact hG.above a ha
      · rw [List.mem_singleton.mp ha]; exact hSl
    · intro j b hj
      rcases Nat.lt_trichotomy j as.length with h1 | h1 | h1
      · rw [List.getElem?_append_left h1] at hj
        obtain ⟨k1, v1, r1, e3⟩ := hG.pairs j b hj
        have hb := hG.above b (List.mem_of_getElem? hj)
        exact ⟨k1, v1, r1, up b _ (Nat.ne_of_gt hb) (hkp b _ (L.over hb) e3)⟩
      · subst h1
        have hb : h.objs.size = b := by simpa using hj
        subst hb
        exact ⟨kk, v, by rw [hal]; exact hrel, up _ _ (Nat.ne_of_gt hSl) ht⟩
      · have hnone : (as ++ [h.objs.size])[j]? = none := List.getElem?_eq_none (by rw [List.length_append, List.length_singleton]; omega)
        rw [hnone] at hj; cases hj
theorem pl_extend {T : String} (hlen : typeLookup (.type T) "__len__" = pure none) (hhint : typeLookup (.type T) "__length_hint__" = pure none) (n2 : (Value.type T == Value.type "list") = false) (n3 : (Value.type T == Value.type "tuple") = false)
    (L : LSrc prog w A.in1 I S wr n Rel St) (hT : s.TypeIs (.ref I) T) (hIS : I ≠ S) (self : ∀ (E : Value → Shared → Prop) (Q : Value → Shared → Prop), Q (.ref I) s → wpAny (model prog w) A.in1 (pyIter (.ref I)) Q E s) (hst : St 0 s.heap) (res : Value) (c₀ : Nat)
    (hS : s.heap.get? S = some { cls := .type "list", data := .seq #[] c₀ })
    (hR : ∀ h' tk acc c as, (∀ b o, b ≠ S → b ∉ wr → s.heap.get? b = some o → h'.get? b = some o) → h'.get? S = some { cls := .type "list", dict := none, data := .seq acc c, slots := #[] } → as.length = n → PlG Rel S h' as →
      acc.toList = as.map Value.ref → R (.ok (.ret res)) { s with heap := h', toks := tk }) (hn : n ≤ sizeLine) :
    wpAny (model prog w) A.in1 (Builtin.List.listExtendWith (.ref S) (.ref I) res)
      (fun fin s' => match fin with | .done f => R (.ok f) s' | .again c' => c'.quiet = true ∧ codeAny (model prog w) A c' R s') (fun e s' => R (.error e) s') s := by
  unfold Builtin.List.listExtendWith
  refine wpAny_bind (wpAny_typeOf hT ?_)
  have h1 : Builtin.List.listSameRef (.ref S) (.ref I) = false := by simp [Builtin.List.listSameRef, Ne.symm hIS]
  simp only [h1, n2, n3, Bool.or_false, Bool.false_eq_true, if_false]
  refine wpAny_bind (self _ _ ?_)
  refine wpAny_bind (wpAny_holding ?_)
  unfold Builtin.List.listLengthHint
  refine wpAny_bind (wpAny_specialOf hT hlen ?_)
  show wpAny _ A.in1 (specialOf (Value.ref I) (Str.ofString "__length_hint__") >>= _) _ _ _
  refine wpAny_bind (wpAny_specialOf hT hhint ?_)
  refine wpAny_pure ?_
  show wpAny _ A.in1 (rule "list.extend.makes-room" >>= fun _ => Builtin.List.listTouch (.ref S) >>= fun _ =>
    again (.builtin "list.extend.loop" ⟨[.ref S, .ref I, res], []⟩)) _ _ _
  refine wpAny_bind (wpAny_rule ?_)
  refine wpAny_bind ?_
  show wpAny _ A.in1 (updateSeq S (·.push .none) >>= fun _ => updateSeq S (·.pop)) _ _ _
  refine wpAny_bind (wpAny_updateSeq hS rfl ?_)
  have hS₂ := Heap.get?_update_self (Obj.mapSeq (·.push Value.none)) hS rfl
  refine wpAny_updateSeq (hz := by seq_fits) hS₂ rfl ?_
  have hS₃ := Heap.get?_update_self (Obj.mapSeq (·.pop)) hS₂ rfl
  have oth : ∀ b o, b ≠ S → s.heap.get? b = some o → ((s.heap.update S (Obj.mapSeq (·.push Value.none))).update S (Obj.mapSeq (·.pop))).get? b = some o :=
    fun b o hb e => (Heap.get?_update_other _ _ (Ne.symm hb)).trans ((Heap.get?_update_other _ _ (Ne.symm hb)).trans e)
  exact wpAny_pure ⟨plainId_quiet PySem.F.plain_extend_loop _, pl_loop (s := s) (h₁ := s.heap) L hn res hR n 0 _ s.toks _ #[] [] (Nat.sub_zero _) (Nat.zero_le _) (L.frame _ _ _ hst oth)
    (fun b o hb _ e => oth b o hb e) hS₃ rfl rfl ⟨List.Pairwise.nil, (fun _ ha => nomatch ha), (fun j a hj => by simp at hj)⟩⟩
theorem pl_init {T : String} (hlen : typeLookup (.type T) "__len__" = pure none) (hhint : typeLookup (.type T) "__length_hint__" = pure none) (n2 : (Value.type T == Value.type "list") = false) (n3 : (Value.type T == Value.type "tuple") = false)
    (L : LSrc prog w A.in1 I S wr n Rel St) (hT : ∀ s' : Shared, St 0 s'.heap → s'.TypeIs (.ref I) T) (hIS : I ≠ S) (self : ∀ (s' : Shared) (E : Value → Shared → Prop) (Q : Value → Shared → Prop), St 0 s'.heap → Q (.ref I) s' → wpAny (model prog w) A.in1 (pyIter (.ref I)) Q E s') (hst : St 0 s.heap)
    (hS : s.heap.get? S = some { cls := .type "list", data := .seq #[] })
    (hR : ∀ h' tk acc c as, (∀ b o, b ≠ S → b ∉ wr → s.heap.get? b = some o → h'.get? b = some o) → h'.get? S = some { cls := .type "list", dict := none, data := .seq acc c, slots := #[] } → as.length = n → PlG Rel S h' as →
      acc.toList = as.map Value.ref → R (.ok (.ret .none)) { s with heap := h', toks := tk }) (hn : n ≤ sizeLine) :
    wpAny (model prog w) A.in1 (Builtin.«list.__init__» ⟨[.ref S, .ref I], []⟩)
      (fun fin s' => match fin with | .done f => R (.ok f) s' | .again c' => c'.quiet = true ∧ codeAny (model prog w) A c' R s') (fun e s' => R (.error e) s') s := by
  show wpAny _ _ (do let old ← Builtin.List.listItems (.ref S); Builtin.List.listUpdate (.ref S) (fun _ => #[]); letGo old.toList.reverse; Builtin.List.listExtendWith (.ref S) (.ref I) .none) _ _ s
  refine wpAny_bind ?_
  unfold Builtin.List.listItems
  refine wpAny_bind (wpAny_seqItems hS rfl (wpAny_pure ?_))
  show wpAny _ _ (updateSeq S (fun _ => #[]) >>= fun _ => letGo (#[] : Array Value).toList.reverse >>= fun _ => Builtin.List.listExtendWith (.ref S) (.ref I) .none) _ _ s
  refine wpAny_bind (wpAny_updateSeq hS rfl ?_)
  have hS₂ := Heap.get?_update_self (Obj.mapSeq (fun _ => (#[] : Array Value))) hS rfl
  have oth : ∀ b o, b ≠ S → s.heap.get? b = some o → (s.heap.update S (Obj.mapSeq (fun _ => (#[] : Array Value)))).get? b = some o :=
    fun b o hb e => (Heap.get?_update_other _ _ (Ne.symm hb)).trans e
  have st2 := L.frame _ _ _ hst oth
  refine wpAny_bind (wpAny_letGo ?_)
  refine pl_extend hlen hhint n2 n3 L (hT _ st2) hIS (fun E Q q => self _ E Q st2 q) st2 .none _ hS₂ (fun h' tk acc c as hk hS' hl hG hacc => ?_) hn
  exact hR h' tk acc c as (fun b o hb hw e => hk b o hb hw (oth b o hb e)) hS' hl hG hacc
end
section
variable {prog : Program} {w : World} {A : Around} {E : Value → Shared → Prop} {s : Shared} {I : Addr} {wr : List Addr} {n : Nat} {Rel : Nat → Value → Value → Prop} {St : Addr → Nat → Heap → Prop}
/-- list(x) of such an iterator -/
theorem pl_call {T : String} {Q : Value → Shared → Prop} (hlen : typeLookup (.type T) "__len__" = pure none) (hhint : typeLookup (.type T) "__length_hint__" = pure none) (n2 : (Value.type T == Value.type "list") = false) (n3 : (Value.type T == Value.type "tuple") = false)
    (L : ∀ S, s.heap.objs.size ≤ S → LSrc prog w A.in1.in1 I S wr n Rel (St S)) (hT : ∀ (S : Addr) (s' : Shared), St S 0 s'.heap → s'.TypeIs (.ref I) T) (hI : I < s.heap.objs.size) (self : ∀ S (s' : Shared) (E : Value → Shared → Prop) (Q : Value → Shared → Prop), St S 0 s'.heap → Q (.ref I) s' → wpAny (model prog w) A.in1.in1 (pyIter (.ref I)) Q E s')
    (hst : ∀ (S : Addr) (h' : Heap), s.heap.objs.size ≤ S → (∀ b o, s.heap.get? b = some o → h'.get? b = some o) → St S 0 h') (hn : n ≤ sizeLine)
    (hQ : ∀ h' tk acc c as, (∀ b o, b ∉ wr → s.heap.get? b = some o → h'.get? b = some o) → h'.get? s.heap.objs.size = some { cls := .type "list", dict := none, data := .seq acc c, slots := #[] } → as.length = n → PlG Rel s.heap.objs.size h' as →
      acc.toList = as.map Value.ref → Q (.ref s.heap.objs.size) { s with heap := h', toks := tk }) :
    wpAny (model prog w) A (call (.type "list") [.ref I]) Q E s := by
  refine callType_codes (Q₁ := fun obj s₁ => obj = .ref s.heap.objs.size ∧ s₁ = { s with heap := s.heap.push { cls := .type "list", data := .seq #[] } }) PySem.F.called_list (PySem.F.typeCall_list_1 _) PySem.F.entry_list_init
    (code_list_new _ ⟨rfl, rfl⟩) fun obj s₁ h₁ => ?_
  obtain ⟨rfl, rfl⟩ := h₁
  have hS : (s.heap.push { cls := .type "list", data := .seq #[] }).get? s.heap.objs.size = some { cls := .type "list", data := .seq #[] } := Heap.get?_push_size _ rfl
  refine ⟨⟨_, hS, rfl⟩, PySem.F.args_list_init_2 _ _, pl_init (A := A.in1) hlen hhint n2 n3 (L _ (Nat.le_refl _)) (hT _) (Nat.ne_of_lt hI) (self _) (hst _ _ (Nat.le_refl _) fun b o e => Heap.get?_push_of_some _ e) hS (fun h' tk acc c as hk hS' hl hG hacc => ?_) hn⟩
  exact ⟨rfl, hQ h' tk acc c as (fun b o hw e => hk b o (Nat.ne_of_lt (Heap.lt_size e)) hw (Heap.get?_push_of_some _ e)) hS' hl hG hacc⟩
end
end PySem.W

/-! KitL2 -/
/-! enumerate, zip over any drawn iterators, while the tuple given out before is still there -/
namespace PySem
open Sem (wp)
section
variable {prog : Program} {w : World} {A : Around} {E : Value → Shared → Prop} {s : Shared}
theorem my_enum_item_held {e it T : Addr} {fp : List Addr} {n i : Nat} {c : Int} {P : Nat → Value → Prop} {St : Nat → Heap → Prop} {old : Value} {f : Bool} {oT : Obj} {Q : Value → Shared → Prop}
    (D : Draws prog w A it fp n P St) (he : IsEnumHeld s.heap e it c old T f) (hT : s.heap.get? T = some oT) (hTe : T ≠ e) (hTi : T ≠ it) (hst : St i s.heap) (hlt : i < n) (hne : e ≠ it) (hef : e ∉ fp)
    (hQ : ∀ x h' tk, P i x → IsEnumHeld h' e it (c + 1) old T true → St (i + 1) h' →
      h'.get? s.heap.objs.size = some { cls := .type "tuple", data := .seq #[.int c tk, x] } → h'.objs.size = s.heap.objs.size + 1 →
      (∀ b o, b ≠ e → b ≠ it → s.heap.get? b = some o → h'.get? b = some o) → Q (.ref s.heap.objs.size) { s with heap := h', toks := tk + 1 }) :
    wpAny (model prog w) A (Builtin.«enumerate.__next__» ⟨[.ref e], []⟩) (fun fin s' => ∃ v, fin = .done (.ret v) ∧ Q v s') E s := by
  obtain ⟨hp, g, d, tk₀, os⟩ := s
  show wpAny _ _ (field (.ref e) 2 >>= _) _ _ _
  refine wpAny_bind (wpAny_field he rfl (x := .ref it) rfl ?_)
  refine wpAny_bind (D.item i _ _ _ hlt hst fun x h₁ tk hPx hit₁ hs₁ => ?_)
  replace hs₁ : Heap.SameBut it hp h₁ := hs₁
  have he₁ : IsEnumHeld h₁ e it c old T f := (hs₁.2 e hne).trans he
  show wpAny _ _ (field (.ref e) 3 >>= _) _ _ ⟨h₁, g, d, tk, os⟩
  refine wpAny_bind (wpAny_field he₁ rfl (x := rawInt c) rfl ?_)
  show wpAny _ _ (field (.ref e) 4 >>= _) _ _ ⟨h₁, g, d, tk, os⟩
  refine wpAny_bind (wpAny_field he₁ rfl (x := .none) rfl ?_)
  show wpAny _ _ (mkInt c >>= _) _ _ ⟨h₁, g, d, tk, os⟩
  refine wpAny_bind (wpAny_mkInt ?_)
  show wpAny _ _ (setField (.ref e) 3 (rawInt (c + 1)) >>= _) _ _ ⟨h₁, g, d, tk + 1, os⟩
  refine wpAny_bind (wpAny_setField_rec he₁ (by simp) fun h₂ he₂ hs₂ => ?_)
  replace hs₂ : Heap.SameBut e h₁ h₂ := hs₂
  replace he₂ : IsEnumHeld h₂ e it (c + 1) old T f := he₂
  show wpAny _ _ (setField (.ref e) 4 .none >>= _) _ _ ⟨h₂, g, d, tk + 1, os⟩
  refine wpAny_bind (wpAny_setField_rec he₂ (by simp) fun h₃ he₃ hs₃ => ?_)
  replace hs₃ : Heap.SameBut e h₂ h₃ := hs₃
  replace he₃ : IsEnumHeld h₃ e it (c + 1) old T f := he₃
  show wpAny _ _ (newTuple [.int c tk, x] >>= _) _ _ ⟨h₃, g, d, tk + 1, os⟩
  refine wpAny_bind (wpAny_newTuple ?_)
  have he₄ : IsEnumHeld (h₃.push { cls := .type "tuple", data := .seq #[.int c tk, x] }) e it (c + 1) old T f := Heap.get?_push_of_some _ he₃
  generalize hh₄ : h₃.push { cls := .type "tuple", data := .seq #[.int c tk, x] } = h₄ at he₄
  have hsz : h₃.objs.size = hp.objs.size := by rw [hs₃.1, hs₂.1, hs₁.1]
  have hel : e < hp.objs.size := Heap.lt_size he
  have ht₄ : h₄.get? hp.objs.size = some { cls := .type "tuple", data := .seq #[.int c tk, x] } := by rw [← hh₄, ← hsz]; exact Heap.get?_push_size _ rfl
  have hz₄ : h₄.objs.size = hp.objs.size + 1 := by rw [← hh₄, Heap.size_push, hsz]
  have hk₄ : ∀ b o, b ≠ e → b ≠ it → hp.get? b = some o → h₄.get? b = some o := fun b o hbe hbi hb => by
    rw [← hh₄]; exact Heap.get?_push_of_some _ (hs₃.extBut b o hbe (hs₂.extBut b o hbe (hs₁.extBut b o hbi hb)))
  have hit₄ : St (i + 1) h₄ := D.frame _ _ _ hit₁ fun b hb o y => by
    have hbe : b ≠ e := fun q => hef (q ▸ hb)
    rw [← hh₄]; exact Heap.get?_push_of_some _ (hs₃.extBut b o hbe (hs₂.extBut b o hbe y))
  show wpAny _ _ (Builtin.SmallTypes.ownedTupleIsFree (.ref e) >>= _) _ _ ⟨h₄, g, d, tk + 1, os⟩
  rw [hsz]
  clear hh₄ he₃ hs₃ he₂ hs₂ he₁ hs₁ hit₁ hsz h₃ h₂ h₁
  refine wpAny_bind (wpAny_tupleHeld_enum (s := ⟨h₄, g, d, tk + 1, os⟩) he₄ (hk₄ T oT hTe hTi hT) fun h₅ he₅ hs₅ => ?_)
  replace hs₅ : Heap.SameBut e h₄ h₅ := hs₅
  simp only [Bool.false_eq_true, if_false]
  refine wpAny_pure ⟨_, rfl, hQ x h₅ tk hPx he₅ (D.over hit₄ hs₅ hef) (hs₅.extBut _ _ (Nat.ne_of_gt hel) ht₄) ?_ fun b o hbe hbi hb => hs₅.extBut b o hbe (hk₄ b o hbe hbi hb)⟩
  show h₅.objs.size = hp.objs.size + 1
  rw [hs₅.1, hz₄]
theorem my_pyNext_enum_item_held {e it T : Addr} {fp : List Addr} {n i : Nat} {c : Int} {P : Nat → Value → Prop} {St : Nat → Heap → Prop} {old : Value} {f : Bool} {oT : Obj} {Q : Option Value → Shared → Prop}
    (D : Draws prog w A.in1 it fp n P St) (he : IsEnumHeld s.heap e it c old T f) (hT : s.heap.get? T = some oT) (hTe : T ≠ e) (hTi : T ≠ it) (hst : St i s.heap) (hlt : i < n) (hne : e ≠ it) (hef : e ∉ fp)
    (hQ : ∀ x h' tk, P i x → IsEnumHeld h' e it (c + 1) old T true → St (i + 1) h' →
      h'.get? s.heap.objs.size = some { cls := .type "tuple", data := .seq #[.int c tk, x] } → h'.objs.size = s.heap.objs.size + 1 →
      (∀ b o, b ≠ e → b ≠ it → s.heap.get? b = some o → h'.get? b = some o) → Q (some (.ref s.heap.objs.size)) { s with heap := h', toks := tk + 1 }) :
    wpAny (model prog w) A (pyNext (.ref e)) Q E s := by
  have hTy : s.TypeIs (.ref e) "enumerate" := ⟨_, he, rfl⟩
  unfold pyNext
  exact wpAny_bind (wpAny_attempt (wpAny_callSpecial?_slot (name := Str.ofString "__next__") hTy F.slot_enumerate_next
    (wpAny_call_entry F.slot_enumerate_next hTy F.entry_enumerate_next
      (my_enum_item_held D he hT hTe hTi hst hlt hne hef fun x h' tk a0 a1 a2 a3 a4 a5 => wpAny_pure (hQ x h' tk a0 a1 a2 a3 a4 a5)) (F.args_enumerate_next_1 _))))
theorem my_pyNext_enum_end_held {e it T : Addr} {fp : List Addr} {n : Nat} {c : Int} {P : Nat → Value → Prop} {St : Nat → Heap → Prop} {old : Value} {f : Bool} {Q : Option Value → Shared → Prop}
    (D : Draws prog w A.in1 it fp n P St) (he : IsEnumHeld s.heap e it c old T f) (hst : St n s.heap) (hQ : ∀ h', Heap.ExtBut it s.heap h' → Q none { s with heap := h' }) : wpAny (model prog w) A (pyNext (.ref e)) Q E s := by
  have hTy : s.TypeIs (.ref e) "enumerate" := ⟨_, he, rfl⟩
  unfold pyNext
  refine wpAny_bind (wpAny_attempt (wpAny_callSpecial?_slot (name := Str.ofString "__next__") hTy F.slot_enumerate_next
    (wpAny_call_entry F.slot_enumerate_next hTy F.entry_enumerate_next ?_ (F.args_enumerate_next_1 _))))
  show wpAny _ _ (field (.ref e) 2 >>= _) _ _ _
  refine wpAny_bind (wpAny_field he rfl (x := .ref it) rfl ?_)
  refine wpAny_bind (D.done s _ _ hst fun h' x he' hx' => ?_)
  obtain ⟨o, ho, hc⟩ := hx'
  refine wpAny_bind (wpAny_isInstance (T := "StopIteration") (b := true) ⟨o, ho, hc⟩ isSubtype_stop ?_)
  exact wpAny_pure (hQ _ he')
/-- zip of two drawn iterators, the tuple out -/
theorem my_zip_item_held {z TI TO T i1 i2 : Addr} {fp1 fp2 : List Addr} {n1 n2 i : Nat} {P1 P2 : Nat → Value → Prop} {St1 St2 : Nat → Heap → Prop} {f : Bool} {oT : Obj} {Q : Value → Shared → Prop} (S : ZipSep2 z TI TO i1 i2 fp1 fp2)
    (D1 : Draws prog w A i1 fp1 n1 P1 St1) (D2 : Draws prog w A i2 fp2 n2 P2 St2) (hz : IsZipHeld s.heap z TI TO T f) (hT : s.heap.get? T = some oT) (hTI : IsTupOf2 s.heap TI (.ref i1) (.ref i2)) (st1 : St1 i s.heap) (st2 : St2 i s.heap) (hlt1 : i < n1) (hlt2 : i < n2)
    (hQ : ∀ x1 x2 h' tk, P1 i x1 → P2 i x2 → IsZipHeld h' z TI TO T true → St1 (i + 1) h' → St2 (i + 1) h' → IsTupOf2 h' s.heap.objs.size x1 x2 → h'.objs.size = s.heap.objs.size + 1 →
      (∀ c o, c ≠ z → c ≠ i1 → c ≠ i2 → s.heap.get? c = some o → h'.get? c = some o) → Q (.ref s.heap.objs.size) { s with heap := h', toks := tk }) :
    wpAny (model prog w) A (Builtin.«zip.__next__» ⟨[.ref z], []⟩) (fun fin s' => ∃ v, fin = .done (.ret v) ∧ Q v s') E s := by
  obtain ⟨hp, g, d, tk0, os⟩ := s
  show wpAny _ _ (field (.ref z) 2 >>= _) _ _ _
  refine wpAny_bind (wpAny_field hz rfl (x := .bool false) rfl ?_)
  show wpAny _ _ (field (.ref z) 3 >>= _) _ _ _
  refine wpAny_bind (wpAny_field hz rfl (x := .ref TI) rfl ?_)
  refine wpAny_bind (wpAny_seqItems hTI rfl ?_)
  show wpAny _ _ (Builtin.SmallTypes.ownedTupleIsFree (.ref z) >>= _) _ _ _
  refine wpAny_bind (wpAny_tupleHeld_zip hz hT fun h₁ hz₁ hs₁ => ?_)
  replace hs₁ : Heap.SameBut z hp h₁ := hs₁
  simp only [Bool.false_eq_true, if_false]
  refine wpAny_bind ?_
  rw [← Array.forIn_toList]
  simp only [List.forIn_cons, List.forIn_nil]
  refine wpAny_bind (wpAny_bind (wpAny_holding ?_))
  show wpAny _ _ (Builtin.SmallTypes.nextOf (.ref i1) >>= _) _ _ _
  refine wpAny_bind (D1.item i _ _ _ hlt1 (D1.over st1 hs₁ S.zf1) fun x1 h₂ tk1 hx1 sn1 hs₂ => wpAny_pure ?_)
  replace hs₂ : Heap.SameBut i1 h₁ h₂ := hs₂
  refine wpAny_pure ?_
  refine wpAny_bind (wpAny_bind (wpAny_holding ?_))
  show wpAny _ _ (Builtin.SmallTypes.nextOf (.ref i2) >>= _) _ _ _
  refine wpAny_bind (D2.item i _ _ _ hlt2 (D2.over (D2.over st2 hs₁ S.zf2) hs₂ S.sep1_2) fun x2 h₃ tk2 hx2 sn2 hs₃ => wpAny_pure ?_)
  replace hs₃ : Heap.SameBut i2 h₂ h₃ := hs₃
  refine wpAny_pure (wpAny_pure ?_)
  show wpAny _ _ (newTuple [x1, x2] >>= _) _ _ _
  refine wpAny_bind (wpAny_newTuple ?_)
  have hsz : h₃.objs.size = hp.objs.size := by rw [hs₃.1, hs₂.1, hs₁.1]
  have hz₃ : IsZipHeld h₃ z TI TO T true := hs₃.extBut _ _ S.zi2 (hs₂.extBut _ _ S.zi1 hz₁)
  have hk : ∀ c o, c ≠ z → c ≠ i1 → c ≠ i2 → hp.get? c = some o → h₃.get? c = some o := fun c o c1 c2 c3 e => hs₃.extBut _ _ c3 (hs₂.extBut _ _ c2 (hs₁.extBut _ _ c1 e))
  have sn1' : St1 (i + 1) h₃ := D1.over sn1 hs₃ S.sep2_1
  refine wpAny_pure ⟨_, rfl, ?_⟩
  show Q (.ref h₃.objs.size) _
  have hp' : IsTupOf2 (h₃.push { cls := .type "tuple", data := .seq #[x1, x2] }) h₃.objs.size x1 x2 := Heap.get?_push_size _ rfl
  have hz4 : (h₃.push { cls := .type "tuple", data := .seq #[x1, x2] }).objs.size = h₃.objs.size + 1 := Heap.size_push ..
  rw [hsz] at hp' hz4 ⊢
  exact hQ x1 x2 _ tk2 hx1 hx2 (Heap.get?_push_of_some _ hz₃) (D1.frame _ _ _ sn1' fun b hb o e => Heap.get?_push_of_some _ e) (D2.frame _ _ _ sn2 fun b hb o e => Heap.get?_push_of_some _ e) hp' hz4 fun c o c1 c2 c3 e => Heap.get?_push_of_some _ (hk c o c1 c2 c3 e)
theorem my_zip_end_held {z TI TO T i1 i2 : Addr} {fp1 fp2 : List Addr} {n1 n2 i : Nat} {P1 P2 : Nat → Value → Prop} {St1 St2 : Nat → Heap → Prop} {f : Bool} {oT : Obj} {Q : Fin → Shared → Prop} (S : ZipSep2 z TI TO i1 i2 fp1 fp2)
    (D1 : Draws prog w A i1 fp1 n1 P1 St1) (D2 : Draws prog w A i2 fp2 n2 P2 St2) (hz : IsZipHeld s.heap z TI TO T f) (hT : s.heap.get? T = some oT) (hTI : IsTupOf2 s.heap TI (.ref i1) (.ref i2)) (st1 : St1 i s.heap) (st2 : St2 i s.heap) (hle1 : i ≤ n1) (hle2 : i ≤ n2) (hend : i = n1 ∨ i = n2)
    (hE : ∀ h' tk e, (∀ c o, c ≠ z → c ≠ i1 → c ≠ i2 → s.heap.get? c = some o → h'.get? c = some o) → (∃ o, h'.get? e = some o ∧ o.cls = .type "StopIteration") → E (.ref e) { s with heap := h', toks := tk }) :
    wpAny (model prog w) A (Builtin.«zip.__next__» ⟨[.ref z], []⟩) Q E s := by
  obtain ⟨hp, g, d, tk0, os⟩ := s
  show wpAny _ _ (field (.ref z) 2 >>= _) _ _ _
  refine wpAny_bind (wpAny_field hz rfl (x := .bool false) rfl ?_)
  show wpAny _ _ (field (.ref z) 3 >>= _) _ _ _
  refine wpAny_bind (wpAny_field hz rfl (x := .ref TI) rfl ?_)
  refine wpAny_bind (wpAny_seqItems hTI rfl ?_)
  show wpAny _ _ (Builtin.SmallTypes.ownedTupleIsFree (.ref z) >>= _) _ _ _
  refine wpAny_bind (wpAny_tupleHeld_zip hz hT fun h₁ hz₁ hs₁ => ?_)
  replace hs₁ : Heap.SameBut z hp h₁ := hs₁
  simp only [Bool.false_eq_true, if_false]
  refine wpAny_bind ?_
  rw [← Array.forIn_toList]
  simp only [List.forIn_cons, List.forIn_nil]
  refine wpAny_bind (wpAny_bind (wpAny_holding ?_))
  show wpAny _ _ (Builtin.SmallTypes.nextOf (.ref i1) >>= _) _ _ _
  by_cases h1 : i = n1
  · subst h1
    refine wpAny_bind (D1.done _ _ _ (D1.over st1 hs₁ S.zf1) fun h₂ e hs₂ he => ?_)
    exact hE h₂ _ e (fun c o c1 c2 _ x => hs₂ _ _ c2 (hs₁.extBut _ _ c1 x)) he
  have h2 : i = n2 := hend.resolve_left h1
  subst h2
  refine wpAny_bind (D1.item i _ _ _ (by omega) (D1.over st1 hs₁ S.zf1) fun x1 h₂ tk1 hx1 sn1 hs₂ => wpAny_pure ?_)
  replace hs₂ : Heap.SameBut i1 h₁ h₂ := hs₂
  refine wpAny_pure ?_
  refine wpAny_bind (wpAny_bind (wpAny_holding ?_))
  show wpAny _ _ (Builtin.SmallTypes.nextOf (.ref i2) >>= _) _ _ _
  refine wpAny_bind (D2.done _ _ _ (D2.over (D2.over st2 hs₁ S.zf2) hs₂ S.sep1_2) fun h₃ e hs₃ he => ?_)
  exact hE h₃ _ e (fun c o c1 c2 c3 x => hs₃ _ _ c3 (hs₂.extBut _ _ c2 (hs₁.extBut _ _ c1 x))) he
theorem my_pyNext_zip_item_held {z TI TO T i1 i2 : Addr} {fp1 fp2 : List Addr} {n1 n2 i : Nat} {P1 P2 : Nat → Value → Prop} {St1 St2 : Nat → Heap → Prop} {f : Bool} {oT : Obj} {Q : Option Value → Shared → Prop} (S : ZipSep2 z TI TO i1 i2 fp1 fp2)
    (D1 : Draws prog w A.in1 i1 fp1 n1 P1 St1) (D2 : Draws prog w A.in1 i2 fp2 n2 P2 St2) (hz : IsZipHeld s.heap z TI TO T f) (hT : s.heap.get? T = some oT) (hTI : IsTupOf2 s.heap TI (.ref i1) (.ref i2)) (st1 : St1 i s.heap) (st2 : St2 i s.heap) (hlt1 : i < n1) (hlt2 : i < n2)
    (hQ : ∀ x1 x2 h' tk, P1 i x1 → P2 i x2 → IsZipHeld h' z TI TO T true → St1 (i + 1) h' → St2 (i + 1) h' → IsTupOf2 h' s.heap.objs.size x1 x2 → h'.objs.size = s.heap.objs.size + 1 →
      (∀ c o, c ≠ z → c ≠ i1 → c ≠ i2 → s.heap.get? c = some o → h'.get? c = some o) → Q (some (.ref s.heap.objs.size)) { s with heap := h', toks := tk }) :
    wpAny (model prog w) A (pyNext (.ref z)) Q E s := by
  have hTy : s.TypeIs (.ref z) "zip" := ⟨_, hz, rfl⟩
  unfold pyNext
  exact wpAny_bind (wpAny_attempt (wpAny_callSpecial?_slot (name := Str.ofString "__next__") hTy F.slot_zip_next
    (wpAny_call_entry F.slot_zip_next hTy F.entry_zip_next
      (my_zip_item_held S D1 D2 hz hT hTI st1 st2 hlt1 hlt2 fun x1 x2 h' tk a0 a1 a2 a3 a4 a5 a6 a7 => wpAny_pure (hQ x1 x2 h' tk a0 a1 a2 a3 a4 a5 a6 a7)) (F.args_zip_next_1 _))))
theorem my_pyNext_zip_end_held {z TI TO T i1 i2 : Addr} {fp1 fp2 : List Addr} {n1 n2 i : Nat} {P1 P2 : Nat → Value → Prop} {St1 St2 : Nat → Heap → Prop} {f : Bool} {oT : Obj} {Q : Option Value → Shared → Prop} (S : ZipSep2 z TI TO i1 i2 fp1 fp2)
    (D1 : Draws prog w A.in1 i1 fp1 n1 P1 St1) (D2 : Draws prog w A.in1 i2 fp2 n2 P2 St2) (hz : IsZipHeld s.heap z TI TO T f) (hT : s.heap.get? T = some oT) (hTI : IsTupOf2 s.heap TI (.ref i1) (.ref i2)) (st1 : St1 i s.heap) (st2 : St2 i s.heap) (hle1 : i ≤ n1) (hle2 : i ≤ n2) (hend : i = n1 ∨ i = n2)
    (hQ : ∀ h' tk, (∀ c o, c ≠ z → c ≠ i1 → c ≠ i2 → s.heap.get? c = some o → h'.get? c = some o) → Q none { s with heap := h', toks := tk }) : wpAny (model prog w) A (pyNext (.ref z)) Q E s := by
  have hTy : s.TypeIs (.ref z) "zip" := ⟨_, hz, rfl⟩
  unfold pyNext
  refine wpAny_bind (wpAny_attempt (wpAny_callSpecial?_slot (name := Str.ofString "__next__") hTy F.slot_zip_next
    (wpAny_call_entry F.slot_zip_next hTy F.entry_zip_next (my_zip_end_held S D1 D2 hz hT hTI st1 st2 hle1 hle2 hend fun h' tk e hk he => ?_) (F.args_zip_next_1 _))))
  obtain ⟨o, ho, hc⟩ := he
  refine wpAny_bind (wpAny_isInstance (T := "StopIteration") (b := true) ⟨o, ho, hc⟩ isSubtype_stop ?_)
  exact wpAny_pure (hQ _ _ hk)
end
end PySem

/-! KitL3 -/
/-! list(enumerate(text)), list(zip(text, text)) -/
namespace PySem.W
open PySem PySem.Calls PyProof.Rows PyProof.V PySem.Spec
section
variable {prog : Program} {w : World} {A : Around} {E : Value → Shared → Prop} {s : Shared}
theorem iter_enumT {e : Addr} {Q : Value → Shared → Prop} (hT : s.TypeIs (.ref e) "enumerate") (h : Q (.ref e) s) : wpAny (model prog w) A (pyIter (.ref e)) Q E s := by
  refine wpAny_pyIter_slot hT PySem.F.slot_enumerate_iter (wpAny_call_entry PySem.F.slot_enumerate_iter hT PySem.F.entry_enumerate_iter ?_ (PySem.F.args_enumerate_iter_1 _))
  show wpAny _ _ (ret (.ref e)) _ _ s
  exact wpAny_pure ⟨_, rfl, "enumerate", _, hT, PySem.F.slot_enumerate_next.lookup, h⟩
theorem iter_zipT {z : Addr} {Q : Value → Shared → Prop} (hT : s.TypeIs (.ref z) "zip") (h : Q (.ref z) s) : wpAny (model prog w) A (pyIter (.ref z)) Q E s := by
  refine wpAny_pyIter_slot hT PySem.F.slot_zip_iter (wpAny_call_entry PySem.F.slot_zip_iter hT PySem.F.entry_zip_iter ?_ (PySem.F.args_zip_iter_1 _))
  show wpAny _ _ (ret (.ref z)) _ _ s
  exact wpAny_pure ⟨_, rfl, "zip", _, hT, PySem.F.slot_zip_next.lookup, h⟩
end
section
variable {prog : Program} {w : World} {A : Around}
def EnSt (e it : Addr) (St : Nat → Heap → Prop) (S : Addr) : Nat → Heap → Prop := fun i h => St i h ∧ ((∃ old, IsEnum h e it ((i : Nat) : Int) old) ∨ ∃ old T f oT, IsEnumHeld h e it ((i : Nat) : Int) old T f ∧ h.get? T = some oT ∧ T ≠ e ∧ T ≠ it ∧ T ≠ S)
theorem EnSt.type {e it S : Addr} {St : Nat → Heap → Prop} {i : Nat} {s : Shared} (h : EnSt e it St S i s.heap) : s.TypeIs (.ref e) "enumerate" := by
  rcases h.2 with ⟨_, he⟩ | ⟨_, _, _, _, he, _⟩
  · exact ⟨_, he, rfl⟩
  · exact ⟨_, he, rfl⟩
theorem lsrc_enum {e it S : Addr} {fp : List Addr} {n : Nat} {P : Nat → Value → Prop} {St : Nat → Heap → Prop} (D : Draws prog w A.in1 it fp n P St) (hei : e ≠ it) (hef : e ∉ fp) (hfS : ∀ b ∈ fp, b < S) (heS : e < S) (hiS : it < S) :
    LSrc prog w A e S [e, it] n (fun i k v => (∃ t, k = .int ((i : Nat) : Int) t) ∧ P i v) (EnSt e it St S) where
  low := fun b hb => by
    simp only [List.mem_cons, List.not_mem_nil, or_false] at hb
    rcases hb with rfl | rfl
    · exact heS
    · exact hiS
  frame := fun i h h' st hk => by
    obtain ⟨hst, he⟩ := st
    refine ⟨D.frame _ _ _ hst fun b hb o x => hk b o (Nat.ne_of_lt (hfS b hb)) x, ?_⟩
    rcases he with ⟨old, he⟩ | ⟨old, T, f, oT, he, hT, r1, r2, r3⟩
    · exact .inl ⟨old, hk _ _ (Nat.ne_of_lt heS) he⟩
    · exact .inr ⟨old, T, f, oT, hk _ _ (Nat.ne_of_lt heS) he, hk _ _ r3 hT, r1, r2, r3⟩
  item := fun i s Q E hi st hS hQ => by
    obtain ⟨hst, he⟩ := st
    have ec : ((i + 1 : Nat) : Int) = (i : Int) + 1 := by omega
    have nit : s.heap.objs.size ≠ it := by obtain ⟨_, x⟩ := D.live _ _ hst; exact Nat.ne_of_gt (Heap.lt_size x)
    rcases he with ⟨old, he⟩ | ⟨old, T, f, oT, he, hT, r1, r2, r3⟩
    · refine wpAny_pyNext_enum_itemC D he hst hi hei hef fun x h' tk hP ho hst' hT hsz hk => ?_
      exact hQ _ _ h' (tk + 1) ⟨⟨_, rfl⟩, hP⟩ hT ⟨hst', .inr ⟨_, s.heap.objs.size, false, _, (by rw [ec]; exact ho), hT, Nat.ne_of_gt (Heap.lt_size he), nit, Nat.ne_of_gt hS⟩⟩
        fun b o hb x => hk b o (fun y => hb (by simp [y])) (fun y => hb (by simp [y])) x
    · refine my_pyNext_enum_item_held D he hT r1 r2 hst hi hei hef fun x h' tk hP ho hst' hT' hsz hk => ?_
      exact hQ _ _ h' (tk + 1) ⟨⟨_, rfl⟩, hP⟩ hT' ⟨hst', .inr ⟨old, T, true, oT, (by rw [ec]; exact ho), hk _ _ r1 r2 hT, r1, r2, r3⟩⟩
        fun b o hb x => hk b o (fun y => hb (by simp [y])) (fun y => hb (by simp [y])) x
  done := fun s Q E st hQ => by
    obtain ⟨hst, he⟩ := st
    rcases he with ⟨old, he⟩ | ⟨old, T, f, oT, he, hT, r1, r2, r3⟩
    · exact wpAny_pyNext_enum_endD D he hst fun h' hk => hQ h' s.toks fun b o hb x => hk b o (fun y => hb (by simp [y])) x
    · exact my_pyNext_enum_end_held D he hst fun h' hk => hQ h' s.toks fun b o hb x => hk b o (fun y => hb (by simp [y])) x
def ZiSt (z TI TO i1 i2 : Addr) (St1 St2 : Nat → Heap → Prop) (S : Addr) : Nat → Heap → Prop := fun i h => IsTupOf2 h TI (.ref i1) (.ref i2) ∧ St1 i h ∧ St2 i h ∧
  ((IsZip h z TI TO .none ∧ ∃ a b, IsTupOf2 h TO a b) ∨ ∃ T f oT, IsZipHeld h z TI TO T f ∧ h.get? T = some oT ∧ T ≠ z ∧ T ≠ i1 ∧ T ≠ i2 ∧ T ≠ S)
theorem ZiSt.type {z TI TO i1 i2 S : Addr} {St1 St2 : Nat → Heap → Prop} {i : Nat} {s : Shared} (h : ZiSt z TI TO i1 i2 St1 St2 S i s.heap) : s.TypeIs (.ref z) "zip" := by
  rcases h.2.2.2 with ⟨he, _⟩ | ⟨_, _, _, he, _⟩
  · exact ⟨_, he, rfl⟩
  · exact ⟨_, he, rfl⟩
theorem lsrc_zip {z TI TO i1 i2 S : Addr} {fp1 fp2 : List Addr} {n1 n2 : Nat} {P1 P2 : Nat → Value → Prop} {St1 St2 : Nat → Heap → Prop} (D : ZipSep2 z TI TO i1 i2 fp1 fp2) (D1 : Draws prog w A.in1 i1 fp1 n1 P1 St1) (D2 : Draws prog w A.in1 i2 fp2 n2 P2 St2)
    (hf1 : ∀ b ∈ fp1, b < S) (hf2 : ∀ b ∈ fp2, b < S) (hz : z < S) (hTI : TI < S) (hTO : TO < S) :
    LSrc prog w A z S [z, TO, i1, i2] (min n1 n2) (fun i k v => P1 i k ∧ P2 i v) (ZiSt z TI TO i1 i2 St1 St2 S) where
  low := fun b hb => by
    simp only [List.mem_cons, List.not_mem_nil, or_false] at hb
    rcases hb with rfl | rfl | rfl | rfl
    · exact hz
    · exact hTO
    · exact hf1 _ D.mem1
    · exact hf2 _ D.mem2
  frame := fun i h h' st hk => by
    obtain ⟨h0, s1, s2, he⟩ := st
    refine ⟨hk _ _ (Nat.ne_of_lt hTI) h0, D1.frame _ _ _ s1 fun b hb o x => hk b o (Nat.ne_of_lt (hf1 b hb)) x, D2.frame _ _ _ s2 fun b hb o x => hk b o (Nat.ne_of_lt (hf2 b hb)) x, ?_⟩
    rcases he with ⟨he, a, b, ht⟩ | ⟨T, f, oT, he, hT, r1, r2, r3, r4⟩
    · exact .inl ⟨hk _ _ (Nat.ne_of_lt hz) he, a, b, hk _ _ (Nat.ne_of_lt hTO) ht⟩
    · exact .inr ⟨T, f, oT, hk _ _ (Nat.ne_of_lt hz) he, hk _ _ r4 hT, r1, r2, r3, r4⟩
  item := fun i s Q E hi st hS hQ => by
    obtain ⟨h0, s1, s2, he⟩ := st
    have lt : ∀ {c o}, s.heap.get? c = some o → s.heap.objs.size ≠ c := fun e => Nat.ne_of_gt (Heap.lt_size e)
    have l1 : s.heap.objs.size ≠ i1 := by obtain ⟨_, e⟩ := D1.live _ _ s1; exact lt e
    have l2 : s.heap.objs.size ≠ i2 := by obtain ⟨_, e⟩ := D2.live _ _ s2; exact lt e
    have hi1 : i < n1 := by omega
    have hi2 : i < n2 := by omega
    rcases he with ⟨he, a, b, ht⟩ | ⟨T, f, oT, he, hT, r1, r2, r3, r4⟩
    · refine wpAny_pyNext_zipD2_item D D1 D2 he h0 ht s1 s2 hi1 hi2 fun x1 x2 h' tk y1 y2 b1 b2 d1 d2 b5 b6 hk => ?_
      exact hQ x1 x2 h' tk ⟨y1, y2⟩ b5 ⟨hk _ _ D.TIz D.TITO D.TIi1 D.TIi2 h0, d1, d2, .inr ⟨s.heap.objs.size, false, _, b1, b5, lt he, l1, l2, Nat.ne_of_gt hS⟩⟩
        fun b o hb x => hk b o (fun y => hb (by simp [y])) (fun y => hb (by simp [y])) (fun y => hb (by simp [y])) (fun y => hb (by simp [y])) x
    · refine my_pyNext_zip_item_held D D1 D2 he hT h0 s1 s2 hi1 hi2 fun x1 x2 h' tk y1 y2 b1 d1 d2 b5 b6 hk => ?_
      exact hQ x1 x2 h' tk ⟨y1, y2⟩ b5 ⟨hk _ _ D.TIz D.TIi1 D.TIi2 h0, d1, d2, .inr ⟨T, true, oT, b1, hk _ _ r1 r2 r3 hT, r1, r2, r3, r4⟩⟩
        fun b o hb x => hk b o (fun y => hb (by simp [y])) (fun y => hb (by simp [y])) (fun y => hb (by simp [y])) x
  done := fun s Q E st hQ => by
    obtain ⟨h0, s1, s2, he⟩ := st
    rcases he with ⟨he, a, b, ht⟩ | ⟨T, f, oT, he, hT, r1, r2, r3, r4⟩
    · exact wpAny_pyNext_zipD2_end D D1 D2 he h0 ht s1 s2 (by omega) (by omega) (by omega) fun h' tk hk => hQ h' tk fun b o hb x => hk b o (fun y => hb (by simp [y])) (fun y => hb (by simp [y])) (fun y => hb (by simp [y])) (fun y => hb (by simp [y])) x
    · exact my_pyNext_zip_end_held D D1 D2 he hT h0 s1 s2 (by omega) (by omega) (by omega) fun h' tk hk => hQ h' tk fun b o hb x => hk b o (fun y => hb (by simp [y])) (fun y => hb (by simp [y])) (fun y => hb (by simp [y])) x
end
end PySem.W
namespace My
open PySem PySem.Spec PyProof.Rows L2
/-- a list of new pairs -/
def NewPairs (H : Hp) (n : Nat) (f : Nat → V × V) (C : Addr → Hp → Prop) : Prop := ∀ (H' : Hp) (p : Addr) (ts : List Addr), Same H H' → H p = none → (∀ t ∈ ts, H t = none) → p ∉ ts → ts.Nodup → ts.length = n → H' p = some (.lst (ts.map V.ref)) →
  (∀ i t, ts[i]? = some t → H' t = some (.tup [(f i).1, (f i).2])) → C p H'
section
variable {X : Cx} {pins : List (Addr × Obj)} {σ : L2.St} {H : Hp} {s : Shared} {h' : Heap} {tk : Nat}
theorem idx_nd : ∀ {as : List Addr} {i : Nat} {t : Addr}, as.Nodup → as[i]? = some t → as.idxOf t = i
  | a :: as, 0, t, _, h => by
    have : a = t := Option.some.inj h
    rw [this]; simp
  | a :: as, i + 1, t, nd, h => by
    have nd' := List.nodup_cons.mp nd
    have h' : as[i]? = some t := h
    have ne : a ≠ t := fun z => nd'.1 (z ▸ List.mem_of_getElem? h')
    have e := idx_nd nd'.2 h'
    rw [List.idxOf_cons, e]
    have : (a == t) = false := by simp [ne]
    rw [this]; rfl
theorem pairs_laid {Rel : Nat → Value → Value → Prop} {n c : Nat} {acc : Array Value} {as : List Addr} {S : Addr} {f : Nat → V × V} (I : Inv X pins σ H s) (hz : n ≤ sizeLine) (hrel : ∀ j k v, j < n → Rel j k v → RelV (f j).1 k ∧ RelV (f j).2 v)
    (hk : ∀ b o, s.heap.get? b = some o → h'.get? b = some o) (hlo : s.heap.objs.size ≤ S) (hS : h'.get? S = some { cls := .type "list", dict := none, data := .seq acc c, slots := #[] }) (hl : as.length = n) (hG : PySem.W.PlG Rel S h' as) (hacc : acc.toList = as.map Value.ref) :
    ∃ H' : Hp, Same H H' ∧ H S = none ∧ (∀ t ∈ as, H t = none) ∧ S ∉ as ∧ as.Nodup ∧ H' S = some (.lst (as.map V.ref)) ∧ (∀ i t, as[i]? = some t → H' t = some (.tup [(f i).1, (f i).2])) ∧ Inv X pins σ H' { s with heap := h', toks := tk } := by
  have hSn : S ∉ as := fun z => Nat.lt_irrefl _ (hG.above _ z)
  have nd : as.Nodup := List.Pairwise.imp (fun {a b} (h : a < b) => Nat.ne_of_lt h) hG.rise
  have new : ∀ t ∈ as, H t = none := fun t ht => I.hok.fresh (Nat.le_trans hlo (Nat.le_of_lt (hG.above t ht)))
  have newS : H S = none := I.hok.fresh hlo
  let H' : Hp := fun b => if b = S then some (.lst (as.map V.ref)) else if b ∈ as then some (.tup [(f (as.idxOf b)).1, (f (as.idxOf b)).2]) else H b
  have off : ∀ b, b ∉ as → b ≠ S → H' b = H b := fun b h1 h2 => by show (if b = S then _ else _) = _; rw [if_neg h2, if_neg h1]
  have low : ∀ b o, s.heap.get? b = some o → b ∉ as ∧ b ≠ S := fun b o e => ⟨fun z => absurd (Heap.lt_size e) (Nat.not_lt.mpr (Nat.le_trans hlo (Nat.le_of_lt (hG.above b z)))), fun z => absurd (Heap.lt_size e) (Nat.not_lt.mpr (z ▸ hlo))⟩
  have kp : ∀ b u, H b = some u → H' b = some u := fun b u e => by
    rw [off b (fun z => by rw [new b z] at e; cases e) (fun z => by rw [z, newS] at e; cases e)]
    exact e
  have eS : H' S = some (.lst (as.map V.ref)) := if_pos rfl
  have eT : ∀ i t, as[i]? = some t → H' t = some (.tup [(f i).1, (f i).2]) := fun i t e => by
    have m := List.mem_of_getElem? e
    show (if t = S then _ else _) = _
    rw [if_neg (fun z => hSn (by rw [← z]; exact m)), if_pos m, idx_nd nd e]
  refine ⟨H', kp, newS, new, hSn, nd, eS, eT, ?_⟩
  refine I.call' (ch := []) rfl ⟨fun b o q _ _ _ => hk b o q, fun b o q _ _ _ => ⟨o.slots, hk b o q⟩, fun b o q n _ => ?_, fun b o q _ => ⟨o, hk b o q⟩, fun b xs q => kp b _ q, fun b o u q => kp b _ q, fun b ps q => ⟨#[], by rw [kp b _ q]; simp⟩⟩ (fun b u q => ?_) I.bare fun b z => by simp at z
  · obtain ⟨z1, z2⟩ := low b o q
    rw [off b z1 z2]
    exact n
  · by_cases hb : b ∈ as
    · obtain ⟨j, e1⟩ := List.mem_iff_getElem?.mp hb
      have e3 := eT j b e1
      rw [e3] at q
      cases q
      obtain ⟨key, x, f1, f2⟩ := hG.pairs j b e1
      obtain ⟨g1, g2⟩ := hrel j key x (by have := (List.getElem?_eq_some_iff.mp e1).1; omega) f1
      exact ⟨by show 2 ≤ sizeLine; decide, [key, x], .cons g1 (.cons g2 .nil), ⟨_, f2, rfl, _, rfl⟩⟩
    · by_cases hb2 : b = S
      · rw [hb2] at q ⊢
        rw [eS] at q
        cases q
        refine ⟨by rw [List.length_map]; omega, acc.toList, c, by rw [hacc]; exact LiI.vals_refs as, ?_⟩
        rw [Array.toArray_toList]
        exact hS
      · rw [off b hb hb2] at q
        exact (I.hok b u q).stay (fun d v _ y => hk d v y) (fun d y => kp d _ y) fun d xs y => kp d _ y
end
def sgn (z : Str) (i : Nat) : V := .str ⟨#[z.cps.getD i 0]⟩
/-- list(enumerate(text)) -/
def tListEnS (te : TE) : TE := fun σ H Q => te σ H fun x H1 => ∃ z : Str, x = .str z ∧ z.length ≤ sizeLine ∧ NewPairs H1 z.length (fun i => (.int (i : Nat), sgn z i)) fun p H' => Q (.ref p) H'
/-- list(zip(text, text)) -/
def tListZiS (ta tb : TE) : TE := fun σ H Q => ta σ H fun x H1 => tb σ H1 fun y H2 => ∃ z z' : Str, x = .str z ∧ y = .str z' ∧ z.length ≤ sizeLine ∧ NewPairs H2 (min z.length z'.length) (fun i => (sgn z i, sgn z' i)) fun p H' => Q (.ref p) H'
section
variable {X : Cx} {e : Expr} {te : TE} {p p2 pos pos2 : Pos}
theorem pe_listEnS (hc : X.calm = true) (he : PE X e te) (hgl : Gl X "list") (hml : X.mg "list" = none) (hge : Gl X "enumerate") (hme : X.mg "enumerate" = none)
    (hs : starEach [.Call (.Name "enumerate" p2) [e] [] pos2] X.env = (false, eval (.Call (.Name "enumerate" p2) [e] [] pos2) X.env) :: starEach [] X.env := by rfl)
    (na : starEach [e] X.env = (false, eval e X.env) :: starEach [] X.env := by rfl) :
    PE X (.Call (.Name "list" p) [.Call (.Name "enumerate" p2) [e] [] pos2] [] pos) (tListEnS te) := by
  refine ⟨fun pins s σ H Q I hq => ?_⟩
  refine wpAny_Call_Name_kw (ld_blt I hgl hml boot_list ?_)
  refine PyProof.Rows.callWith_type1 ?_ hs rfl
  rw [hs]
  show wpAny _ _ (spliced ((false, eval (.Call (.Name "enumerate" p2) [e] [] pos2) X.env) :: backTo pos (starEach [] X.env))) _ _ s
  refine Calls.spliced_cons ?_
  refine Call_ (ld_blt I hge hme boot_enumerate (PyProof.Rows.callWith_type1 (one_arg he I hq (fun v s2 x H2 I2 r q => ?_) na) na))
  obtain ⟨z, rfl, hz, q⟩ := q
  obtain ⟨t, rfl⟩ := r
  refine call_enumerate_str fun h0 hen hit hsz hk0 => ?_
  refine Calls.spliced_nil ?_
  have I3 : Inv X pins σ H2 { s2 with heap := h0 } := I2.kept (t' := s2.toks) hk0
  have D : Draws X.prog X.w X.A.in1.in1.in1 s2.heap.objs.size [s2.heap.objs.size] z.cps.size (fun i v => ∃ c u, z.cps[i]? = some c ∧ v = .str ⟨#[c]⟩ u) (fun i h => h.IsStrIter s2.heap.objs.size (strIterType z) z t i) := Draws.text (show X.A.in1.in1.in1.handled = none from I2.ok.hd hc) _ z t
  have big : s2.heap.objs.size + 1 < h0.objs.size := by rw [hsz]; exact Nat.lt_succ_self _
  refine PySem.W.pl_call (St := PySem.W.EnSt (s2.heap.objs.size + 1) s2.heap.objs.size (fun i h => h.IsStrIter s2.heap.objs.size (strIterType z) z t i)) (s := { s2 with heap := h0 }) PySem.W.enumerate_no_len PySem.W.enumerate_no_hint (by decide) (by decide)
    (fun S hS => PySem.W.lsrc_enum (A := X.A.in1.in1) D (Nat.succ_ne_self _) (by simp) (fun b hb => ?_) (Nat.lt_of_lt_of_le big hS) (Nat.lt_of_lt_of_le (Nat.lt_of_succ_lt big) hS)) (fun S s' h => PySem.W.EnSt.type h) big (fun S s' E' Q' h q' => PySem.W.iter_enumT (PySem.W.EnSt.type h) q') (fun S h' hS hk' => ?_) hz (fun h' tk acc c as hk hS hl hG hacc => ?_)
  · rw [List.mem_singleton.mp hb]
    exact Nat.lt_of_lt_of_le (Nat.lt_of_succ_lt big) hS
  · exact ⟨let ⟨o, ho, r⟩ := hit; ⟨o, hk' _ _ ho, r⟩, .inl ⟨_, hk' _ _ hen⟩⟩
  · have hkk : ∀ b o, s2.heap.get? b = some o → h'.get? b = some o := fun b o e => by
      refine hk b o (fun m => ?_) (hk0 b o e)
      have lb := Heap.lt_size e
      simp only [List.mem_cons, List.not_mem_nil, or_false] at m
      rcases m with m | m
      · exact absurd lb (by rw [m]; exact Nat.not_lt.mpr (Nat.le_succ _))
      · exact absurd lb (by rw [m]; exact Nat.lt_irrefl _)
    have hrel : ∀ j k v, j < z.length → ((∃ t, k = .int ((j : Nat) : Int) t) ∧ ∃ c u, z.cps[j]? = some c ∧ v = Value.str ⟨#[c]⟩ u) → RelV (.int ((j : Nat) : Int)) k ∧ RelV (sgn z j) v := fun j k v _ hr => by
      obtain ⟨⟨u, rfl⟩, cc, u2, e1, rfl⟩ := hr
      refine ⟨⟨_, rfl⟩, u2, ?_⟩
      show Value.str ⟨#[cc]⟩ u2 = Value.str ⟨#[z.cps.getD j 0]⟩ u2
      rw [Array.getD_eq_getD_getElem?, e1]; rfl
    obtain ⟨H', k1, k2, k3, k4, k5, k6, k7, J⟩ := pairs_laid (s := s2) (h' := h') (tk := tk) (n := z.length) (f := fun i => (.int (i : Nat), sgn z i)) I2 hz hrel hkk (by show s2.heap.objs.size ≤ h0.objs.size; rw [hsz]; exact Nat.le_add_right _ _) hS hl hG hacc
    exact ⟨.ref _, H', J, rfl, q H' _ as k1 k2 k3 k4 k5 hl k6 k7⟩
theorem pe_listZiS {b : Expr} {tb : TE} (hc : X.calm = true) (he : PE X e te) (hb : PE X b tb) (hgl : Gl X "list") (hml : X.mg "list" = none) (hge : Gl X "zip") (hme : X.mg "zip" = none)
    (hs : starEach [.Call (.Name "zip" p2) [e, b] [] pos2] X.env = (false, eval (.Call (.Name "zip" p2) [e, b] [] pos2) X.env) :: starEach [] X.env := by rfl)
    (na : starEach [e, b] X.env = (false, eval e X.env) :: starEach [b] X.env := by rfl) (nb : starEach [b] X.env = (false, eval b X.env) :: starEach [] X.env := by rfl) (hp : (backTo pos2 (starEach [b] X.env)).any (·.1) = false := by rfl) :
    PE X (.Call (.Name "list" p) [.Call (.Name "zip" p2) [e, b] [] pos2] [] pos) (tListZiS te tb) := by
  refine ⟨fun pins s σ H Q I hq => ?_⟩
  refine wpAny_Call_Name_kw (ld_blt I hgl hml boot_list ?_)
  refine PyProof.Rows.callWith_type1 ?_ hs rfl
  rw [hs]
  show wpAny _ _ (spliced ((false, eval (.Call (.Name "zip" p2) [e, b] [] pos2) X.env) :: backTo pos (starEach [] X.env))) _ _ s
  refine Calls.spliced_cons ?_
  refine Call_ (ld_blt I hge hme (show bootBuiltins ("zip" : Str) = some (.type "zip") by decide +kernel) (PyProof.Rows.callWith_type1 (args_cons (thn (he.run pins s σ H _ I hq) fun v s1 ⟨x, H1, I1, r1, q1⟩ => one_arg hb I1 q1 (fun u s2 y H2 I2 r2 q => ?_) nb) na) na hp))
  obtain ⟨z, z', rfl, rfl, hz, q⟩ := q
  obtain ⟨t, rfl⟩ := r1
  obtain ⟨t', rfl⟩ := r2
  refine zip_begins2 (begins_text z t) (begins_text z' t') trivial trivial fun h0 hzip hTI hTO ho1 ho2 hsz hk0 => ?_
  refine Calls.spliced_nil ?_
  have hh : X.A.in1.in1.in1.handled = none := I2.ok.hd hc
  have D1 := Draws.text (prog := X.prog) (w := X.w) hh s2.heap.objs.size z t
  have D2 := Draws.text (prog := X.prog) (w := X.w) hh (s2.heap.objs.size + 1) z' t'
  have Sp : ZipSep2 (s2.heap.objs.size + 4) (s2.heap.objs.size + 2) (s2.heap.objs.size + 3) s2.heap.objs.size (s2.heap.objs.size + 1) [s2.heap.objs.size] [s2.heap.objs.size + 1] := zip_sep2 (by simp) (by simp)
  have it1 : h0.IsStrIter s2.heap.objs.size (strIterType z) z t 0 := ⟨_, ho1, rfl, rfl⟩
  have it2 : h0.IsStrIter (s2.heap.objs.size + 1) (strIterType z') z' t' 0 := ⟨_, ho2, rfl, rfl⟩
  have bigE : h0.objs.size = s2.heap.objs.size + 5 := hsz
  have ltn : ∀ k, k < 5 → s2.heap.objs.size + k < h0.objs.size := fun k hk => by rw [bigE]; exact Nat.add_lt_add_left hk _
  have lt0 : s2.heap.objs.size < h0.objs.size := ltn 0 (by decide)
  refine PySem.W.pl_call (St := PySem.W.ZiSt (s2.heap.objs.size + 4) (s2.heap.objs.size + 2) (s2.heap.objs.size + 3) s2.heap.objs.size (s2.heap.objs.size + 1) (fun i h => h.IsStrIter s2.heap.objs.size (strIterType z) z t i) (fun i h => h.IsStrIter (s2.heap.objs.size + 1) (strIterType z') z' t' i)) (s := { s2 with heap := h0 }) PySem.W.zip_no_len PySem.W.zip_no_hint (by decide) (by decide)
    (fun S hS => PySem.W.lsrc_zip (A := X.A.in1.in1) Sp D1 D2 (fun b hb => ?_) (fun b hb => ?_) (Nat.lt_of_lt_of_le (ltn 4 (by decide)) hS) (Nat.lt_of_lt_of_le (ltn 2 (by decide)) hS) (Nat.lt_of_lt_of_le (ltn 3 (by decide)) hS)) (fun S s' h => PySem.W.ZiSt.type h) (ltn 4 (by decide)) (fun S s' E' Q' h q' => PySem.W.iter_zipT (PySem.W.ZiSt.type h) q') (fun S h' hS hk' => ?_) (Nat.le_trans (Nat.min_le_left ..) hz) (fun h' tk acc c as hk hS hl hG hacc => ?_)
  · rw [List.mem_singleton.mp hb]
    exact Nat.lt_of_lt_of_le lt0 hS
  · rw [List.mem_singleton.mp hb]
    exact Nat.lt_of_lt_of_le (ltn 1 (by decide)) hS
  · exact ⟨hk' _ _ hTI, (let ⟨o, ho, r⟩ := it1; ⟨o, hk' _ _ ho, r⟩), (let ⟨o, ho, r⟩ := it2; ⟨o, hk' _ _ ho, r⟩), .inl ⟨hk' _ _ hzip, _, _, hk' _ _ hTO⟩⟩
  · have hkk : ∀ b o, s2.heap.get? b = some o → h'.get? b = some o := fun b o e => by
      refine hk b o (fun m => ?_) (hk0 b o e)
      have lb := Heap.lt_size e
      simp only [List.mem_cons, List.not_mem_nil, or_false] at m
      rcases m with m | m | m | m
      · exact absurd lb (by rw [m]; exact Nat.not_lt.mpr (Nat.le_add_right _ _))
      · exact absurd lb (by rw [m]; exact Nat.not_lt.mpr (Nat.le_add_right _ _))
      · exact absurd lb (by rw [m]; exact Nat.lt_irrefl _)
      · exact absurd lb (by rw [m]; exact Nat.not_lt.mpr (Nat.le_succ _))
    have hrel : ∀ j k v, j < min z.length z'.length → ((∃ c u, z.cps[j]? = some c ∧ k = Value.str ⟨#[c]⟩ u) ∧ ∃ c u, z'.cps[j]? = some c ∧ v = Value.str ⟨#[c]⟩ u) → RelV (sgn z j) k ∧ RelV (sgn z' j) v := fun j k v _ hr => by
      obtain ⟨⟨c1, u1, e1, rfl⟩, c2, u2, e2, rfl⟩ := hr
      refine ⟨⟨u1, ?_⟩, u2, ?_⟩
      · show Value.str ⟨#[c1]⟩ u1 = Value.str ⟨#[z.cps.getD j 0]⟩ u1
        rw [Array.getD_eq_getD_getElem?, e1]; rfl
      · show Value.str ⟨#[c2]⟩ u2 = Value.str ⟨#[z'.cps.getD j 0]⟩ u2
        rw [Array.getD_eq_getD_getElem?, e2]; rfl
    obtain ⟨H', k1, k2, k3, k4, k5, k6, k7, J⟩ := pairs_laid (s := s2) (h' := h') (tk := tk) (n := min z.length z'.length) (f := fun i => (sgn z i, sgn z' i)) I2 (Nat.le_trans (Nat.min_le_left ..) hz) hrel hkk (Nat.le_of_lt lt0) hS hl hG hacc
    exact ⟨.ref _, H', J, rfl, q H' _ as k1 k2 k3 k4 k5 hl k6 k7⟩
end
end My

/-! KitL4 -/
/-! text[::-1], list.extend(tuple), for over zip of rows and texts in any mix, tuple(d.values()) -/
namespace PySem
open Sem (wp)
open AutoSeq1
theorem my_extend_tup (l : Addr) (items : Array Value) (n : Nat) (b : Addr) (items2 : Array Value) (n2 : Nat) (dct : Option Addr) (sl : Array (Option Value)) (hs0 : ¬(!items.isEmpty && Builtin.List.listTooLong (items.size + items2.size)) = true) (hs1 : items.size ≤ sizeLine) (hs2 : items.size + items2.size ≤ sizeLine + 1 := by seq_fits) :
    Meets (Builtin.«list.extend» ⟨[.ref l, .ref b], []⟩) (fun _ R s => s.heap.get? l = some { cls := .type "list", dict := none, data := .seq items n, slots := #[] } ∧ s.heap.get? b = some { cls := .type "tuple", dict := dct, data := .seq items2 n2, slots := sl } ∧ R (.ok (.ret Value.none)) { s with heap := s.heap.update l (Obj.mapSeq fun x => x ++ items2), toks := s.toks }) :=
  .of_wp fun prog w A R s h => by
    obtain ⟨hp, g, d, tk, os⟩ := s; obtain ⟨hl, hb, h⟩ := h; have f1 := idx_int; have f2 := sub_tuple_tuple; have f3 := sub_list_list; have f4 := sub_tuple_list; have f5 := sub_list_tuple;
    have hz' : (items ++ items2).size ≤ sizeLine + 1 := by rw [Array.size_append]; exact hs2
    wp_walk using (wpAny_updateSeq hl rfl (hz := hs1) (_hz' := hz')), wpAny_loadPart' hl, wpAny_loadPart' hb; exact ⟨_, rfl, h⟩
end PySem
namespace My
open PySem PySem.Spec PyProof.Rows L2
def revS (z : Str) : Str := ⟨z.cps.toList.reverse.toArray⟩
theorem revS_len (z : Str) : (revS z).length = z.length := by
  show (z.cps.toList.reverse.toArray).size = z.cps.size
  rw [List.size_toArray, List.length_reverse, Array.length_toList]
theorem picked_rev (z : Str) : ((Builtin.Str.strSliceIndices none none (-1) z.length).filterMap (z.cps[·]?)).toArray = z.cps.toList.reverse.toArray := by
  have e : Builtin.Str.strSliceIndices none none (-1) z.length = (List.range z.length).reverse := by
    show sliceRange (if (-1 : Int) > 0 then 0 else (z.length : Int) - 1) (if (-1 : Int) > 0 then (z.length : Int) else -1) (-1) = _
    rw [if_neg (by decide), if_neg (by decide), PySem.W.krv_sliceRange, PySem.W.krv_range]
  rw [e, List.filterMap_reverse]
  have := PySem.W.krv_all z.cps
  rw [show (List.range z.length).filterMap (z.cps[·]?) = z.cps.toList from this]
def tRevS (te : TE) : TE := fun σ H Q => te σ H fun x H1 => ∃ z, x = .str z ∧ z.length ≤ sizeLine ∧ Q (.str (revS z)) H1
section
variable {X : Cx}
theorem pe_revS {e : Expr} {te : TE} {k : Nat} {p1 p2 p3 pos : Pos} (he : PE X e te) : PE X (.Subscript e (.Slice none none (some (.UnaryOp .USub (.Constant (.int 1) k p1) p2)) p3) pos) (tRevS te) := by
  refine ⟨fun pins s σ H Q I h => ?_⟩
  refine Subscript_ (thn (he.run pins s σ H _ I h) fun v s1 ⟨x, H1, I1, r1, q1⟩ => ?_)
  obtain ⟨z, ex, hz, q⟩ := q1
  subst ex
  obtain ⟨t, rfl⟩ := r1
  have hst : PO X (some (.UnaryOp .USub (.Constant (.int 1) k p1) p2)) (tPart (tUn (rU fun i => .int (-i)) (tC (.int 1)))) := po_some (pe_un un_neg pe_int)
  refine wpAny_Slice (thn (po_none.run pins s1 σ H1 (fun o H2 => o = none ∧ H2 = H1) I1 ⟨rfl, rfl⟩) fun vl s2 ⟨l, H2, I2, pl, el, e2⟩ => ?_)
  subst el e2
  refine thn (po_none.run pins s2 σ H2 (fun o H3 => o = none ∧ H3 = H2) I2 ⟨rfl, rfl⟩) fun vu s3 ⟨u, H3, I3, pu, eu, e3⟩ => ?_
  subst eu e3
  refine thn (hst.run pins s3 σ H3 (fun o H4 => o = some (-1) ∧ H4 = H3) I3 ⟨1, rfl, -1, rfl, rfl, rfl⟩) fun vs s4 ⟨o, H4, I4, ps, eo, e4⟩ => ?_
  subst eo e4
  have I5 : Inv X pins σ H4 { s4 with heap := s4.heap.push { cls := .type "slice", data := .fields #[vl, vu, vs] } } := I4.kept (t' := s4.toks) fun b ob q => Heap.get?_push_of_some _ q
  obtain ⟨l', rfl, el⟩ := IsPart.raw pl
  obtain ⟨u', rfl, eu⟩ := IsPart.raw pu
  obtain ⟨st', rfl, es⟩ := IsPart.raw ps
  show wpAny (model X.prog X.w) X.A (subscriptTail e (.Slice none none (some (.UnaryOp .USub (.Constant (.int 1) k p1) p2)) p3) (.str z t) (.ref s4.heap.objs.size)) (EP X pins σ Q) X.xe { s4 with heap := s4.heap.push { cls := .type "slice", data := .fields #[partValue l', partValue u', partValue st'] } }
  refine tail_any (ops := [.str z t, .ref s4.heap.objs.size]) (T := "str") (typeIs_str _ _ _) F.slot_str_getitem.lookup ?_ (by with_unfolding_all rfl)
  refine wpAny_getItem_str_slice (l := l') (u := u') (st := st') ⟨_, Heap.get?_push_size _ rfl, rfl, rfl⟩ (by rw [es]; rfl) ?_
  unfold sliceMade slicePicked
  rw [el, eu, es]
  have hne : ¬ (((some (-1 : Int)).getD 1 == 1 && (Builtin.Str.strSliceIndices none none ((some (-1 : Int)).getD 1) z.length).length == z.length) = true) := by
    show ¬ (((-1 : Int) == 1 && _) = true)
    rw [show ((-1 : Int) == 1) = false by decide, Bool.false_and]
    exact Bool.false_ne_true
  rw [if_neg hne]
  show (Made.str ⟨((Builtin.Str.strSliceIndices none none (-1) z.length).filterMap (z.cps[·]?)).toArray⟩).post (EP X pins σ Q) _
  rw [picked_rev]
  exact ⟨by rw [show (⟨z.cps.toList.reverse.toArray⟩ : Str) = revS z from rfl, revS_len]; exact hz, .str _, H4, I5.tok _, ⟨_, rfl⟩, q⟩
/-- xs.extend(t), t a tuple -/
def rExtendT (K : PySem.W.Frag) : V → List V → Hp → VK → Prop := fun x vs H Q => ∃ l b xs zs, x = .ref l ∧ vs = [.ref b] ∧ H l = some (.lst xs) ∧ H b = some (.tup zs) ∧ xs.length + zs.length ≤ sizeLine ∧ Q .non (upd H l (.lst (xs ++ zs)))
theorem mt_extendT : MtM X "list.extend" (rExtendT X.K) := by
  intro pins s σ H x vs v us Q I rx rv h
  obtain ⟨l, b, xs, zs, rfl, rfl, hH, hB, hz, q⟩ := h
  cases rx
  obtain ⟨u, rfl, ru⟩ := rv.one
  cases ru
  obtain ⟨z, its, n, r, hl, e⟩ := I.lstM hH
  obtain ⟨its2, r2, pl2, hz2⟩ := I.tuple (SqT.of (K := X.K) hB)
  have hl2 := r2.length
  obtain ⟨⟨c2, d2, dt2, sl2⟩, e2, hc2, n2, hdd2⟩ := pl2
  dsimp only at hc2 hdd2
  subst hc2 hdd2
  have hsz : its.toArray.size + its2.toArray.size ≤ sizeLine := by rw [List.size_toArray, List.size_toArray]; omega
  have hlong : ¬ (!its.toArray.isEmpty && Builtin.List.listTooLong (its.toArray.size + its2.toArray.size)) = true := by
    rw [notLongL hsz, Bool.and_false]
    exact Bool.false_ne_true
  refine call_meets F.slot_list_extend ⟨_, e, rfl⟩ F.entry_list_extend (F.args_list_extend_2 _ _)
    (my_extend_tup l its.toArray n b its2.toArray n2 d2 sl2 hlong (by rw [List.size_toArray]; omega) (by omega)) ⟨e, e2, ?_⟩
  refine ⟨.non, _, I.lset (its' := its ++ its2) hH e (by simp) (r.append r2) ?_, rfl, q⟩
  rw [List.length_append]
  omega
end
end My

/-! KitL5 -/
/-! for over zip(x, y), each a row or a text -/
namespace My
open PySem PySem.Spec PyProof.Rows L2
/-- the signs of a text -/
def sigs (z : Str) : List V := z.cps.toList.map fun c => V.str ⟨#[c]⟩
theorem sigs_len (z : Str) : (sigs z).length = z.cps.size := by unfold sigs; rw [List.length_map, Array.length_toList]
theorem sigs_at (z : Str) (i : Nat) : (sigs z)[i]? = z.cps[i]?.map fun c => V.str ⟨#[c]⟩ := by unfold sigs; rw [List.getElem?_map, Array.getElem?_toList]
inductive Kd where
  | lst (a : Addr) | tup (a : Addr) | txt (z : Str) (t : Tok)
def Kd.off (N : Nat) : Kd → Prop | .lst a => a < N | .tup a => a < N | .txt _ _ => True
def Kd.it (h : Heap) (j : Addr) (i : Nat) : Kd → Prop | .lst a => h.IsListIter j a i | .tup a => h.IsTupleIter j a i | .txt z t => h.IsStrIter j (strIterType z) z t i
def Kd.fp (j : Addr) : Kd → List Addr | .lst a => [j, a] | .tup a => [j, a] | .txt _ _ => [j]
def Kd.own : Kd → List Addr | .lst a => [a] | .tup a => [a] | .txt _ _ => []
def Kd.src (H : Hp) (xs : List V) : Kd → Prop | .lst a => H a = some (.lst xs) | .tup a => H a = some (.tup xs) | .txt z _ => xs = sigs z
theorem Kd.fp_own (j : Addr) (k : Kd) : k.fp j = j :: k.own := by cases k <;> rfl
theorem Kd.it_keep {h h' : Heap} {j : Addr} {i : Nat} {k : Kd} (x : k.it h j i) (e : ∀ o, h.get? j = some o → h'.get? j = some o) : k.it h' j i := by
  cases k with
  | lst a => obtain ⟨o, ho, r⟩ := x; exact ⟨o, e o ho, r⟩
  | tup a => obtain ⟨o, ho, r⟩ := x; exact ⟨o, e o ho, r⟩
  | txt z t => obtain ⟨o, ho, r⟩ := x; exact ⟨o, e o ho, r⟩
theorem Kd.it_obj {h : Heap} {j : Addr} {i : Nat} {k : Kd} (x : k.it h j i) : ∃ o, h.get? j = some o ∧ ∀ v, o.data ≠ .cell v := by
  cases k with
  | lst a => obtain ⟨o, ho, _, d⟩ := x; exact ⟨o, ho, fun v q => by rw [d] at q; cases q⟩
  | tup a => obtain ⟨o, ho, _, d⟩ := x; exact ⟨o, ho, fun v q => by rw [d] at q; cases q⟩
  | txt z t => obtain ⟨o, ho, _, d⟩ := x; exact ⟨o, ho, fun v q => by rw [d] at q; cases q⟩
/-- what such an iterator draws -/
theorem Kd.draws {X : Cx} {pins : List (Addr × Obj)} {σ : L2.St} {H : Hp} {s : Shared} {A : Around} (I : Inv X pins σ H s) (hh : A.handled = none) {k : Kd} {xs : List V} (hs : k.src H xs) {j : Addr} {i : Nat} (hi : k.it s.heap j i) (hj : ∀ a ∈ k.own, a ≠ j) :
    ∃ (P : Nat → Value → Prop) (St : Nat → Heap → Prop), Draws X.prog X.w A j (k.fp j) xs.length P St ∧ St i s.heap ∧ (∀ m h, St m h → k.it h j m) ∧ ∀ m v, P m v → ∃ x, xs[m]? = some x ∧ RelV x v := by
  cases k with
  | lst a =>
    obtain ⟨its, rv, p, hz⟩ := I.list (SqL.of (K := X.K) (show H a = some (.lst xs) from hs))
    have hl := rv.length
    have D := Draws.list (prog := X.prog) (w := X.w) hh j a (hj a (by simp [Kd.own])) its.toArray
    rw [show its.toArray.size = xs.length by rw [List.size_toArray]; omega] at D
    refine ⟨_, _, D, ⟨hi, p.isList⟩, fun m h x => x.1, fun m v e => ?_⟩
    have e' : its[m]? = some v := by simpa using e
    have hm : m < xs.length := by have := (List.getElem?_eq_some_iff.mp e').1; omega
    obtain ⟨u, hu, ru⟩ := rv.get (List.getElem?_eq_getElem hm)
    rw [e'] at hu; cases hu
    exact ⟨_, List.getElem?_eq_getElem hm, ru⟩
  | tup a =>
    obtain ⟨its, rv, p, hz⟩ := I.tuple (SqT.of (K := X.K) (show H a = some (.tup xs) from hs))
    have hl := rv.length
    have D := Draws.tuple (prog := X.prog) (w := X.w) hh j a (hj a (by simp [Kd.own])) its.toArray
    rw [show its.toArray.size = xs.length by rw [List.size_toArray]; omega] at D
    refine ⟨_, _, D, ⟨hi, p⟩, fun m h x => x.1, fun m v e => ?_⟩
    have e' : its[m]? = some v := by simpa using e
    have hm : m < xs.length := by have := (List.getElem?_eq_some_iff.mp e').1; omega
    obtain ⟨u, hu, ru⟩ := rv.get (List.getElem?_eq_getElem hm)
    rw [e'] at hu; cases hu
    exact ⟨_, List.getElem?_eq_getElem hm, ru⟩
  | txt z t =>
    obtain rfl : xs = sigs z := hs
    have D := Draws.text (prog := X.prog) (w := X.w) hh j z t
    rw [← sigs_len] at D
    refine ⟨_, _, D, hi, fun m h x => x, fun m v e => ?_⟩
    obtain ⟨c, u, e1, rfl⟩ := e
    exact ⟨.str ⟨#[c]⟩, by rw [sigs_at, e1]; rfl, u, rfl⟩
/-- both as they stand at each turn, the items in new pairs -/
def ItzG (k1 k2 : Kd) (xs ys : List V) : It :=
  ⟨fun i H => k1.src H xs ∧ k2.src H ys ∧ i < min xs.length ys.length,
    fun i H v H' => ∃ T x y, v = .ref T ∧ H T = none ∧ H' = upd H T (.tup [x, y]) ∧ xs[i]? = some x ∧ ys[i]? = some y,
    fun i H => k1.src H xs ∧ k2.src H ys ∧ i = min xs.length ys.length⟩
theorem walk_zipG {k1 k2 : Kd} {xs ys : List V} : Walk (ItzG k1 k2 xs ys) (min xs.length ys.length) (fun H => k1.src H xs ∧ k2.src H ys) (YPair (fun i => xs[i]?) (fun i => ys[i]?)) :=
  ⟨fun i _ hi q => ⟨q.1, q.2, hi⟩, fun _ q => ⟨q.1, q.2, rfl⟩, fun _ _ _ _ _ _ y => y⟩
theorem turn_zipG {P : Program} {w : World} {K : PySem.W.Frag} {elts : List Expr} {kk : Nat} {tpos : Pos} {z TI TO i1 i2 : Addr} {k1 k2 : Kd} {xs ys : List V} (D : ZipSep2 z TI TO i1 i2 (k1.fp i1) (k2.fp i2)) (ho1 : ∀ a ∈ k1.own, a ≠ i1) (ho2 : ∀ a ∈ k2.own, a ≠ i2) :
    Turn P w K (.Tuple elts kk tpos) (ItzG k1 k2 xs ys) [z, TI, TO, i1, i2] z (fun i h => IsZip h z TI TO .none ∧ IsTupOf2 h TI (.ref i1) (.ref i2) ∧ (∃ x y, IsTupOf2 h TO x y) ∧ k1.it h i1 i ∧ k2.it h i2 i) where
  mem := by simp
  obj := fun i h st c hc => by
    obtain ⟨hz, hTI, ⟨x, y, hTO⟩, h1, h2⟩ := st
    have e' : c = z ∨ c = TI ∨ c = TO ∨ c = i1 ∨ c = i2 := by simpa using hc
    rcases e' with q | q | q | q | q
    · rw [q]; exact ⟨_, hz, fun v q => nomatch q⟩
    · rw [q]; exact ⟨_, hTI, fun v q => nomatch q⟩
    · rw [q]; exact ⟨_, hTO, fun v q => nomatch q⟩
    · rw [q]; exact Kd.it_obj h1
    · rw [q]; exact Kd.it_obj h2
  keep := fun i h h' st k => by
    obtain ⟨hz, hTI, ⟨x, y, hTO⟩, h1, h2⟩ := st
    exact ⟨k z (by simp) _ hz, k TI (by simp) _ hTI, ⟨x, y, k TO (by simp) _ hTO⟩, Kd.it_keep h1 fun o q => k i1 (by simp) o q, Kd.it_keep h2 fun o q => k i2 (by simp) o q⟩
  item := by
    intro X hP hw hK hc i pins s σ H E I hf st hg
    subst hP hw hK
    obtain ⟨hz, hTI, ⟨x0, y0, hTO⟩, h1, h2⟩ := st
    obtain ⟨hqx, hqy, hlt⟩ := hg
    have hh : X.A.in1.handled = none := I.ok.hd hc
    obtain ⟨P1, St1, D1, s1, b1, r1⟩ := Kd.draws (A := X.A.in1) I hh hqx h1 ho1
    obtain ⟨P2, St2, D2, s2, b2, r2⟩ := Kd.draws (A := X.A.in1) I hh hqy h2 ho2
    have hzl : z < s.heap.objs.size := Heap.lt_size hz
    refine wpAny_pyNext_zipD2_item D D1 D2 hz hTI hTO s1 s2 (by omega) (by omega) fun u u2 h' tk q1 q2 z' TO' h1' h2' hT hsz hk => ?_
    obtain ⟨x, hx, ru⟩ := r1 i u q1
    obtain ⟨y, hy, ru2⟩ := r2 i u2 q2
    refine ⟨_, rfl, wpAny_letOwnedTupleGo_zip (s := { s with heap := h', toks := tk }) z' fun h'' z'' sb => ?_⟩
    have hT2 : h''.get? s.heap.objs.size = some { cls := .type "tuple", data := .seq #[u, u2] } := (sb.2 _ (Nat.ne_of_gt hzl)).trans hT
    have new : ObjOk X.prog X.w (upd H s.heap.objs.size (.tup [x, y])) h'' s.heap.objs.size (.tup [x, y]) :=
      ⟨by show 2 ≤ sizeLine; decide, [u, u2], .cons ru (.cons ru2 .nil), ⟨_, hT2, rfl, _, rfl⟩⟩
    have I1 : Inv X pins σ (upd H s.heap.objs.size (.tup [x, y])) { s with heap := h'', toks := tk } :=
      I.turnedNew (t' := tk) (ch := [z, TI, TO, i1, i2]) (fun c o hb q => (sb.2 c (fun q' => hb (by simp [q']))).trans (hk c o (fun q' => hb (by simp [q'])) (fun q' => hb (by simp [q'])) (fun q' => hb (by simp [q'])) (fun q' => hb (by simp [q'])) q)) hf (Nat.le_refl _) new
    refine ⟨.ref s.heap.objs.size, _, I1, rfl, ⟨_, x, y, rfl, I.hok.fresh (Nat.le_refl _), rfl, hx, hy⟩, ⟨z'', ?_, ⟨u, u2, ?_⟩, ?_, ?_⟩, fun c hcm => ?_⟩
    · exact (sb.2 _ D.TIz).trans (hk _ _ D.TIz D.TITO D.TIi1 D.TIi2 hTI)
    · exact (sb.2 _ D.TOz).trans TO'
    · exact Kd.it_keep (b1 _ _ h1') fun o q => (sb.2 _ (Ne.symm D.zi1)).trans q
    · exact Kd.it_keep (b2 _ _ h2') fun o q => (sb.2 _ (Ne.symm D.zi2)).trans q
    · have hlt : c < s.heap.objs.size := by
        have e' : c = z ∨ c = TI ∨ c = TO ∨ c = i1 ∨ c = i2 := by simpa using hcm
        rcases e' with q | q | q | q | q
        · rw [q]; exact hzl
        · rw [q]; exact Heap.lt_size hTI
        · rw [q]; exact Heap.lt_size hTO
        · rw [q]; obtain ⟨_, e1, _⟩ := Kd.it_obj h1; exact Heap.lt_size e1
        · rw [q]; obtain ⟨_, e2, _⟩ := Kd.it_obj h2; exact Heap.lt_size e2
      rw [upd_ne (Nat.ne_of_lt hlt)]
      exact (hf c hcm).1
  done := by
    intro X hP hw hK hc i pins s σ H E I hf st hg
    subst hP hw hK
    obtain ⟨hz, hTI, ⟨x0, y0, hTO⟩, h1, h2⟩ := st
    obtain ⟨hqx, hqy, hend⟩ := hg
    have hh : X.A.in1.handled = none := I.ok.hd hc
    obtain ⟨P1, St1, D1, s1, b1, r1⟩ := Kd.draws (A := X.A.in1) I hh hqx h1 ho1
    obtain ⟨P2, St2, D2, s2, b2, r2⟩ := Kd.draws (A := X.A.in1) I hh hqy h2 ho2
    exact wpAny_pyNext_zipD2_end D D1 D2 hz hTI hTO s1 s2 (by omega) (by omega) (by omega) fun h' tk hk => ⟨rfl, I.turnedL (t' := tk) (ch := [z, TI, TO, i1, i2]) (fun c o hb q =>
      hk c o (fun q' => hb (by simp [q'])) (fun q' => hb (by simp [q'])) (fun q' => hb (by simp [q'])) (fun q' => hb (by simp [q'])) q) hf⟩
  self := fun A i s Q E st h => wpAny_pyIter_zip st.1 h
/-- what is walked: a row or a text -/
def SeqV (H : Hp) (x : V) (xs : List V) : Prop := (∃ a, x = .ref a ∧ Row H a xs) ∨ ∃ z, x = .str z ∧ xs = sigs z
def iZipG (ta : TA) : TI := fun σ H R => ta σ H fun vs H1 => ∃ (x y : V) (xs ys : List V), vs = [x, y] ∧ SeqV H1 x xs ∧ SeqV H1 y ys ∧
  ∀ (J : It) (G : Hp → Prop), Walk J (min xs.length ys.length) G (YPair (fun i => xs[i]?) (fun i => ys[i]?)) → (∀ H' : Hp, (∀ a, x = .ref a → H' a = H1 a) → (∀ a, y = .ref a → H' a = H1 a) → G H') → R J H1
structure SrcOk (X : Cx) (H : Hp) (s : Shared) (x : V) (u : Value) (xs : List V) (k : Kd) (o : Obj) (B : Heap → Prop) : Prop where
  begins : Begins u o B
  now : B s.heap
  off : k.off s.heap.objs.size
  src : ∀ H' : Hp, (∀ a, x = .ref a → H' a = H a) → k.src H' xs
  it : ∀ (h : Heap) (j : Addr), h.get? j = some o → k.it h j 0
theorem SeqV.ok {X : Cx} {pins : List (Addr × Obj)} {σ : L2.St} {H : Hp} {s : Shared} {x : V} {u : Value} {xs : List V} (I : Inv X pins σ H s) (r : RelV x u) (h : SeqV H x xs) : ∃ k o B, SrcOk X H s x u xs k o B := by
  rcases h with ⟨a, rfl, h | h⟩ | ⟨z, rfl, rfl⟩
  · obtain rfl : u = .ref a := r
    obtain ⟨its, rv, p, hz⟩ := I.list (SqL.of (K := X.K) h)
    exact ⟨.lst a, _, _, begins_list a its.toArray, p.isList, p.lt, fun H' e => (e a rfl).trans h, fun h' j e => ⟨_, e, rfl, rfl⟩⟩
  · obtain rfl : u = .ref a := r
    obtain ⟨its, rv, p, hz⟩ := I.tuple (SqT.of (K := X.K) h)
    exact ⟨.tup a, _, _, begins_tuple a its.toArray, p, (let ⟨_, e, _⟩ := id p; Heap.lt_size e), fun H' e => (e a rfl).trans h, fun h' j e => ⟨_, e, rfl, rfl⟩⟩
  · obtain ⟨t, rfl⟩ := r
    exact ⟨.txt z t, _, _, begins_text z t, trivial, trivial, fun _ _ => rfl, fun h' j e => ⟨_, e, rfl, rfl⟩⟩
theorem Kd.own_lt {N : Nat} {k : Kd} (h : k.off N) : ∀ a ∈ k.own, a < N := by
  cases k with
  | lst b => intro a m; rw [List.mem_singleton.mp m]; exact h
  | tup b => intro a m; rw [List.mem_singleton.mp m]; exact h
  | txt z t => intro a m; cases m
theorem pi_zipG {X : Cx} {e e2 : Expr} {ta : TA} {p pos tpos : Pos} {elts : List Expr} {kk : Nat} (hg : Gl X "zip") (hm : X.mg "zip" = none) (ha : PA X [e, e2] ta)
    (hs : starEach [e, e2] X.env = (false, eval e X.env) :: starEach [e2] X.env := by rfl) (hpl : (backTo pos (starEach [e2] X.env)).any (·.1) = false := by rfl) :
    PI X (.Tuple elts kk tpos) (.Call (.Name "zip" p) [e, e2] [] pos) (iZipG ta) := by
  refine ⟨fun pins s σ H R I h => ?_⟩
  refine Call_ (ld_blt I hg hm PyProof.Rows.boot_zip (PyProof.Rows.callWith_type1 (thn (ha.run pos pins s σ H _ I h) fun us s1 ⟨vs, H1, I1, r1, q1⟩ => ?_) hs hpl))
  obtain ⟨x, y, xs, ys, ex, hx, hy, q⟩ := q1
  subst ex
  cases r1 with
  | cons r rr =>
    cases rr with
    | cons r' rr =>
      cases rr
      obtain ⟨k1, o1, B1, S1⟩ := hx.ok I1 r
      obtain ⟨k2, o2, B2, S2⟩ := hy.ok I1 r'
      have fresh5 : ∀ c, c ∈ [s1.heap.objs.size + 4, s1.heap.objs.size + 2, s1.heap.objs.size + 3, s1.heap.objs.size, s1.heap.objs.size + 1] → FpOk X pins H1 c := fun c hcm => by
        have e' : c = s1.heap.objs.size + 4 ∨ c = s1.heap.objs.size + 2 ∨ c = s1.heap.objs.size + 3 ∨ c = s1.heap.objs.size ∨ c = s1.heap.objs.size + 1 := by simpa using hcm
        have hle : s1.heap.objs.size ≤ c := by
          rcases e' with z | z | z | z | z
          · rw [z]; exact Nat.le_add_right _ _
          · rw [z]; exact Nat.le_add_right _ _
          · rw [z]; exact Nat.le_add_right _ _
          · rw [z]; exact Nat.le_refl _
          · rw [z]; exact Nat.le_add_right _ _
        exact I1.fpOk hle (I1.hok.fresh hle)
      refine zip_begins2 S1.begins S2.begins S1.now S2.now fun h' hz hTI hTO ho1 ho2 hsz hk => wpAny_pyIter_zip hz ?_
      have I2 : Inv X pins σ H1 { s1 with heap := h' } := I1.kept (t' := s1.toks) hk
      have D : ZipSep2 (s1.heap.objs.size + 4) (s1.heap.objs.size + 2) (s1.heap.objs.size + 3) s1.heap.objs.size (s1.heap.objs.size + 1) (k1.fp s1.heap.objs.size) (k2.fp (s1.heap.objs.size + 1)) := by
        rw [Kd.fp_own, Kd.fp_own]
        exact zip_sep2 (Kd.own_lt S1.off) (Kd.own_lt S2.off)
      exact ⟨s1.heap.objs.size + 4, [s1.heap.objs.size + 4, s1.heap.objs.size + 2, s1.heap.objs.size + 3, s1.heap.objs.size, s1.heap.objs.size + 1], _, _, H1, rfl, I2,
        turn_zipG (k1 := k1) (k2 := k2) (xs := xs) (ys := ys) D (fun a m => Nat.ne_of_lt (Kd.own_lt S1.off a m)) (fun a m => Nat.ne_of_lt (Nat.lt_of_lt_of_le (Kd.own_lt S2.off a m) (Nat.le_succ _))),
        ⟨hz, hTI, ⟨_, _, hTO⟩, S1.it _ _ ho1, S2.it _ _ ho2⟩, fresh5, q _ _ walk_zipG fun H' e1 e2 => ⟨S1.src H' e1, S2.src H' e2⟩⟩
end My

/-! KitL6 -/
/-! tuple(d.values()) -/
namespace PySem.W
open PySem PySem.Calls PyProof.Rows PyProof.V PySem.Spec
section
variable {prog : Program} {w : World} {A : Around} {E : Value → Shared → Prop} {s : Shared} {T : String} {r d : Addr} {n : Nat} {P : Nat → Value → Prop} {OK : Heap → Prop}
theorem collect_src {Q : List Value → Shared → Prop} (K : KdlSrc prog w T r d n P OK) (hh : A.handled = none) (hok : OK s.heap) (hn : n ≤ sizeLine)
    (hQ : ∀ (h' : Heap) (tk : Nat) (acc : Array Value), (∀ b o, s.heap.get? b = some o → h'.get? b = some o) → ItemsOf P acc n → Q acc.toList { s with heap := h', toks := tk }) :
    wpAny (model prog w) A (collect (.ref r)) Q E s := by
  unfold collect
  refine wpAny_bind (wpAny_runValue (codeAny_builtin PySem.F.entry_proto_collect ?_))
  rw [Around.under_plainId PySem.F.plain_proto_collect _]
  show wpAny _ A.in1 (newList [] >>= fun l => again (.builtin "list.__iadd__" ⟨[l, .ref r], []⟩)) _ _ s
  refine wpAny_bind (wpAny_newObj_type ?_)
  refine wpAny_pure ⟨plainId_quiet PySem.F.plain_list_iadd _, codeAny_builtin PySem.F.entry_list_iadd ?_⟩
  rw [Around.under_plainId PySem.F.plain_list_iadd _]
  show wpAny _ A.in1 (Builtin.List.listExtendWith (.ref s.heap.objs.size) (.ref r) (.ref s.heap.objs.size)) _ _ _
  have hS : (s.heap.push { cls := .type "list", data := .seq ([] : List Value).toArray }).get? s.heap.objs.size = some { cls := .type "list", data := .seq #[] 0 } := Heap.get?_push_size _ rfl
  have th := K.there _ hok
  refine wpAny_mono (kdl_extend (A := A) (R := fun rr s' => rr = .ok (.ret (.ref s.heap.objs.size)) ∧ ∃ (h' : Heap) (tk : Nat) (acc : Array Value) (c' : Nat), s' = { s with heap := h', toks := tk } ∧
      (∀ b o, s.heap.get? b = some o → h'.get? b = some o) ∧ h'.get? s.heap.objs.size = some { cls := .type "list", dict := none, data := .seq acc c', slots := #[] } ∧ ItemsOf P acc n)
    (s := { s with heap := s.heap.push { cls := .type "list", data := .seq ([] : List Value).toArray } }) K hh (K.keep _ _ hok fun b _ o e => Heap.get?_push_of_some _ e) s.heap.objs.size (Nat.ne_of_gt th.1) (Nat.ne_of_gt th.2) _ 0 hS
    (fun h' tk acc c' hk e hi => ⟨rfl, h', tk, acc, c', rfl, fun b o q => hk b o (Nat.ne_of_lt (Heap.lt_size q)) (Heap.get?_push_of_some _ q), e, hi⟩) hn) (fun fin s' h => ?_) (fun e s' h => ?_)
  · cases fin with
    | done f =>
      obtain ⟨e, h', tk, acc, c', rfl, hk, hS', hi⟩ := h
      cases e
      show wpAny _ A (load s.heap.objs.size >>= _) _ _ _
      exact wpAny_bind (wpAny_load hS' (wpAny_pure (hQ h' tk acc hk hi)))
    | again c' =>
      refine ⟨h.1, codeAny_mono h.2 fun rr s'' hr' => ?_⟩
      obtain ⟨rfl, h', tk, acc, c', rfl, hk, hS', hi⟩ := hr'
      show wpAny _ A (load s.heap.objs.size >>= _) _ _ _
      exact wpAny_bind (wpAny_load hS' (wpAny_pure (hQ h' tk acc hk hi)))
  · exact absurd h.1 (by simp)
theorem code_tuple_new_vals {Q₁ : Value → Shared → Prop} (K : KdlSrc prog w "dict_values" r d n P OK) (hh : A.handled = none) (hok : OK s.heap) (hn : n ≤ sizeLine)
    (h : ∀ (h' : Heap) (tk : Nat) (acc : Array Value), (∀ b o, s.heap.get? b = some o → h'.get? b = some o) → ItemsOf P acc n →
      Q₁ (.ref h'.objs.size) { s with heap := h'.push { cls := .type "tuple", data := .seq acc }, toks := tk }) :
    codeAny (model prog w) A (.call (.builtin "tuple.__new__") ⟨[.type "tuple", .ref r], []⟩) (wants Q₁ E) s := by
  refine codeAny_of_tree ?_
  show wpAny _ A.in1 (do checkBuiltinCall "tuple.__new__" ⟨[.type "tuple", .ref r], []⟩; again (.builtin "tuple.__new__" ⟨[.type "tuple", .ref r], []⟩)) _ _ s
  refine wpAny_bind (wpAny_of_eq (PySem.F.newCall_tuple_1 _) (wpAny_pure ⟨plainId_quiet PySem.F.plain_tuple_new _, codeAny_builtin PySem.F.entry_tuple_new ?_⟩))
  rw [Around.under_plainId PySem.F.plain_tuple_new _]
  have hsub := sub_tuple_self
  have hinit := init_tuple_lookup
  have hmh := madeHere_tuple
  have hTI : s.TypeIs (.ref r) "dict_values" := K.type s hok
  have hh1 : A.in1.handled = none := hh
  wp_walk using wpAny_typeOf hTI, collect_src (A := A.in1) K hh1 hok hn
  intro h' tk acc hk hacc
  show wpAny _ _ (Builtin.Tuple.tupleExact acc.toList.toArray >>= fun v => ret v) _ _ _
  unfold Builtin.Tuple.tupleExact
  refine wpAny_bind (wpAny_newObj_type ?_ (by show acc.toList.toArray.size ≤ sizeLine; simp only [Array.toArray_toList]; rw [hacc.1]; exact hn))
  refine wpAny_pure ?_
  have e : acc.toList.toArray = acc := by simp
  rw [e]
  exact h h' tk acc hk hacc
theorem call_tuple_vals {Q : Value → Shared → Prop} (K : KdlSrc prog w "dict_values" r d n P OK) (hh : A.handled = none) (hok : OK s.heap) (hn : n ≤ sizeLine)
    (hQ : ∀ (h' : Heap) (tk : Nat) (acc : Array Value), (∀ b o, s.heap.get? b = some o → h'.get? b = some o) → ItemsOf P acc n →
      Q (.ref h'.objs.size) { s with heap := h'.push { cls := .type "tuple", data := .seq acc }, toks := tk }) :
    wpAny (model prog w) A (call (.type "tuple") [.ref r]) Q E s := by
  refine callType_codes (Q₁ := fun obj s₁ => s₁.TypeIs obj "tuple" ∧ Q obj s₁) PySem.F.called_tuple (PySem.F.typeCall_tuple_1 _) PySem.F.entry_object_init
    (code_tuple_new_vals (A := A.in1) K hh hok hn fun h' tk acc hk hacc => ⟨⟨_, Heap.get?_push_size _ rfl, rfl⟩, hQ h' tk acc hk hacc⟩) fun obj s₁ h₁ => ?_
  exact ⟨h₁.1, PySem.F.args_object_init_2 obj _, object_init_meets PySem.F.called_tuple.init.lookup PySem.F.called_tuple.made (by decide) prog w A.in1 _ s₁ ⟨h₁.1, rfl, h₁.2⟩⟩
end
end PySem.W
namespace My
open PySem PySem.Spec PyProof.Rows L2
def tTupVals (te : TE) : TE := fun σ H Q => te σ H fun x H1 => ∃ (d : Addr) (kvs : List (Key × V)), x = .ref d ∧ H1 d = some (.dK kvs) ∧ ∀ q, H1 q = none → Q (.ref q) (upd H1 q (.tup (kvs.map Prod.snd)))
section
variable {X : Cx} {e : Expr} {te : TE} {p apos cpos pos : Pos}
theorem vals_by {kvs : List (Key × V)} {vs : List (Key × Value)} {acc : Array Value} (kv : KV kvs vs) (h : ItemsOf (fun i v => ∃ k, vs[i]? = some (k, v)) acc vs.length) : Vals (kvs.map Prod.snd) acc.toList := by
  have lk : kvs.length = vs.length := Paired.length kv
  have ea : acc.toList = vs.map Prod.snd := by
    apply List.ext_getElem?
    intro j
    rw [List.getElem?_map]
    cases hj : acc.toList[j]? with
    | none =>
      have h1 := List.getElem?_eq_none_iff.mp hj
      rw [Array.length_toList, h.1] at h1
      rw [List.getElem?_eq_none h1]; rfl
    | some v =>
      obtain ⟨k, e⟩ := h.2 j v (by rw [← Array.getElem?_toList]; exact hj)
      rw [e]; rfl
  rw [ea]
  clear ea h lk
  induction kv with
  | nil => exact .nil
  | cons h t ih => exact .cons h.2 ih
theorem pe_tupVals (hc : X.calm = true) (he : PE X e te) (hg : Gl X "tuple") (hm : X.mg "tuple" = none) (hbase : attributeBase e "values" X.env (eval e X.env) = eval e X.env := by rfl) (hline : (apos.endLine == cpos.line) = true := by rfl)
    (hs : starEach [.Call (.Attribute e "values" apos) [] [] cpos] X.env = (false, eval (.Call (.Attribute e "values" apos) [] [] cpos) X.env) :: starEach [] X.env := by rfl) :
    PE X (.Call (.Name "tuple" p) [.Call (.Attribute e "values" apos) [] [] cpos] [] pos) (tTupVals te) := by
  refine ⟨fun pins s σ H Q I hq => ?_⟩
  refine wpAny_Call_Name_kw (ld_blt I hg hm boot_tuple ?_)
  refine PyProof.Rows.callWith_type1 ?_ hs rfl
  rw [hs]
  show wpAny _ _ (spliced ((false, eval (.Call (.Attribute e "values" apos) [] [] cpos) X.env) :: backTo pos (starEach [] X.env))) _ _ s
  refine Calls.spliced_cons ?_
  refine wpAny_Call_method (T := "dict") (id := "dict.values") hbase rfl hline F.plainAttrs_dict F.slot_dict_values F.type_dict_values (thn (he.run pins s σ H _ I hq) fun u s1 ⟨x, H1, I1, rx, d, kvs, ex, hd, q⟩ => ?_)
  subst ex
  obtain rfl : u = Value.ref d := rx
  obtain ⟨hz, hs0, vs, kv, hdo⟩ := I1.hok d _ hd
  obtain ⟨ep, hat⟩ := hdo.dictAt
  have lk : kvs.length = vs.length := Paired.length kv
  refine ⟨hdo.typeIs, hdo.mapOf.noDict, ?_⟩
  show wpAny _ _ (callWith cpos (.builtin "dict.values") [.ref d] [] []) _ X.xe s1
  refine method_meetsIn F.slot_dict_values F.entry_dict_values rfl (PySem.evalArgs_none ⟨rfl, hdo.typeIs, F.args_dict_values_1 _, _, meets_dict_values (mixKind X.prog X.w) d hs0, ⟨vs, hdo⟩, ?_⟩)
  refine Calls.spliced_nil ?_
  have I2 : Inv X pins σ H1 { s1 with heap := s1.heap.push { cls := .type "dict_values", data := .fields #[.ref d] } } := I1.kept (t' := s1.toks) fun b ob q => Heap.get?_push_of_some _ q
  refine PySem.W.call_tuple_vals (s := { s1 with heap := s1.heap.push { cls := .type "dict_values", data := .fields #[.ref d] } }) (PySem.W.kdl_values (knd := mixKind X.prog X.w) (kvs := vs) (ep := ep)) (I1.ok.hd hc) ⟨⟨_, Heap.get?_push_size _ rfl, rfl, rfl⟩, hat.push _⟩ (by omega) fun h' tk acc hk hacc => ?_
  have I3 : Inv X pins σ H1 { s1 with heap := h', toks := tk } := I2.kept (t' := tk) hk
  have rv := vals_by kv hacc
  refine ⟨.ref _, _, I3.laid (t' := tk) (o := .tup (kvs.map Prod.snd)) (fun b ob q => Heap.get?_push_of_some _ q) (Nat.le_refl _) ?_, rfl, q _ (I3.hok.fresh (Nat.le_refl _))⟩
  exact ⟨by rw [List.length_map]; exact hz, acc.toList, rv, _, Heap.get?_push_size _ rfl, rfl, 0, by simp⟩
end
end My

/-! KitL7 -/
/-! small words -/
namespace My
open PySem PySem.Spec PyProof.Rows L2
section
variable {X : Cx}
theorem pe_tr {e : Expr} {t t' : TE} (h : PE X e t) (q : t = t') : PE X e t' := q ▸ h
theorem pg_tr {e : Expr} {t t' : TG} (h : PG X e t) (q : t = t') : PG X e t' := q ▸ h
theorem pts_tr {e : List Expr} {t t' : TT} (h : PTs X e t) (q : t = t') : PTs X e t' := q ▸ h
/-- str of an int or a text -/
theorem call_strA : CallR X (.type "str") (fun xs H Q => (∃ i, xs = [.int i] ∧ i.natAbs.log2 < 1920 ∧ Q (.str (toString i)) H) ∨ ∃ a, xs = [.str a] ∧ Q (.str a) H) := by
  intro pins s σ H xs us Q I r h
  rcases h with h | h
  · exact call_str_int pins s σ H xs us Q I r h
  · exact SkE.call_str_str pins s σ H xs us Q I r h
theorem call_tupleS : CallR X (.type "tuple") (fun xs H Q => ∃ p ys, xs = [.ref p] ∧ ((SqL X.K H p ys ∧ ∀ l, H l = none → Q (.ref l) (upd H l (.tup ys))) ∨ (SqT X.K H p ys ∧ Q (.ref p) H))) := callR_imp call_tuple_of fun _ _ _ h => h
theorem call_tupleTT : CallR X (.type "tuple") (fun xs H Q => ∃ p ys, xs = [.ref p] ∧ SqT X.K H p ys ∧ Q (.ref p) H) := callR_imp call_tuple_of fun _ _ _ ⟨p, ys, e, h, q⟩ => ⟨p, ys, e, .inr ⟨h, q⟩⟩
end
/-- the scope of a comprehension; what a statement assigns -/
def cscope : Expr → Scope
  | .ListComp _ _ sc _ => sc
  | .DictComp _ _ _ sc _ => sc
  | _ => { kind := .function, names := [], isGenerator := false, isCoroutine := false }
def asgV : Stmt → Expr
  | .Assign _ v _ => v
  | _ => .Constant .none 0 ⟨0, 0, 0, 0⟩
open PySem in
theorem blk_rel {N : List Str} {sc scope : Scope} {own : List (Str × Nat)} {env : Env} (h : BlkOk N sc scope own) : BlkOk N (relabel sc env) scope own := by
  refine ⟨h.kind, h.uniq, h.ix, fun y hy hk => ?_, h.own⟩
  have := h.free y hy hk
  unfold relabel
  revert this
  show _ → List.lookup y.fst (sc.names.map _) = _ ∨ List.lookup y.fst (sc.names.map _) = _
  induction sc.names with
  | nil => exact id
  | cons q r ih =>
    obtain ⟨n, kd⟩ := q
    intro e
    rw [List.map_cons]
    rw [List.lookup_cons] at e
    dsimp only at e ⊢
    split
    · rename_i c
      have ck : kd = NameKind.free := by
        have := (Bool.and_eq_true _ _ ▸ (Bool.and_eq_true _ _ ▸ c).1).1
        exact eq_of_beq this
      rw [List.lookup_cons]
      cases b : (y.fst == n) with
      | true => exact .inl rfl
      | false => rw [b] at e; exact ih e
    · rw [List.lookup_cons]
      cases b : (y.fst == n) with
      | true => rw [b] at e; exact e
      | false => rw [b] at e; exact ih e
end My

/-! KitL8 -/
/-! a dict comprehension over anything that is walked -/
namespace My
open PySem L2
section
variable {J : It} {n : Nat} {G : Hp → Prop} {Y : Nat → Hp → V → Hp → Prop}
theorem dc_it (w : Walk J n G Y) {g : TG} {tt : TT} {tk tv : TE} {vs : List Nat} {σ : St} {H1 : Hp} {D : Addr} {Qd : Hp → Prop} (Pv : Nat → Hp → Prop) (h0 : Pv 0 (upd H1 D (.dK []))) (hG : ∀ i H, i ≤ n → Pv i H → G H)
    (hs : ∀ i x H H', i < n → Pv i H → Y i H x H' → g x (wipe σ vs) H' fun σ2 H2 => wipe σ2 vs = wipe σ vs ∧ tt σ2 H2 fun b H3 =>
      if b = true then tk σ2 H3 fun y H4 => tv σ2 H4 fun z H5 => ∃ kvs k, y = kV k ∧ H5 D = some (.dK kvs) ∧ kvs.length < sizeLine ∧ Pv (i + 1) (upd H5 D (.dK (putK kvs k z))) else Pv (i + 1) H3) (hd : ∀ H, Pv n H → Qd H) :
    ∃ W : Nat → Nat → Hp → Prop, (∃ m, W 0 m (upd H1 D (.dK []))) ∧ ∀ i m H, W i m H →
      (J.stop i H ∧ Qd H) ∨ (J.go i H ∧ ∃ Nx : Hp → Prop, (∀ H', Nx H' → ∃ m', m' < m ∧ W (i + 1) m' H') ∧ ∀ x H', J.yld i H x H' → g x (wipe σ vs) H' fun σ2 H2 => wipe σ2 vs = wipe σ vs ∧ tt σ2 H2 fun b H3 =>
        if b = true then tk σ2 H3 fun y H4 => tv σ2 H4 fun z H5 => ∃ kvs k, y = kV k ∧ H5 D = some (.dK kvs) ∧ kvs.length < sizeLine ∧ Nx (upd H5 D (.dK (putK kvs k z))) else Nx H3) := by
  refine ⟨fun i m H => m = n - i ∧ i ≤ n ∧ Pv i H, ⟨n, rfl, Nat.zero_le _, h0⟩, ?_⟩
  rintro i m H ⟨rfl, hi, p⟩
  have q := hG i H hi p
  rcases Nat.lt_or_ge i n with hlt | hge
  · exact .inr ⟨w.goes i H hlt q, Pv (i + 1), fun H' p' => ⟨n - (i + 1), by omega, rfl, hlt, p'⟩, fun x H' y => hs i x H H' hlt p (w.yields i H x H' hlt q y)⟩
  · obtain rfl : i = n := Nat.le_antisymm hi hge
    exact .inl ⟨w.stops H q, hd H p⟩
end
end My

/-! KitL9 -/
/-! a text times a number -/
namespace My
open PySem L2
def repS (x : Str) (n : Nat) : Str := ⟨(List.replicate n x.cps).foldl (· ++ ·) #[]⟩
theorem repS_one (x : Str) : repS x 1 = x := by
  unfold repS
  show (⟨#[] ++ x.cps⟩ : Str) = x
  rw [Array.empty_append]
theorem fold_emp (n : Nat) : (List.replicate n (#[] : Array Nat)).foldl (· ++ ·) #[] = #[] := by
  induction n with
  | zero => rfl
  | succ n ih => rw [List.replicate_succ, List.foldl_cons]; simpa using ih
section
variable {X : Cx}
theorem op_rep_str : OpR X (binaryOp .Mult) (fun x y H Q => ∃ z k, x = .str z ∧ y = .int k ∧ 0 ≤ k ∧ k ≤ 1000 ∧ z.length ≤ 1000 ∧ Q (.str (repS z k.toNat)) H) := by
  intro pins s σ H x y v u Q I rx ry h
  obtain ⟨z, k, rfl, rfl, h0, h1, hz, q⟩ := h
  obtain ⟨t, rfl⟩ := rx
  obtain ⟨t', rfl⟩ := ry
  have hm : z.length * k.toNat ≤ 1000 * 1000 := Nat.mul_le_mul hz (by omega)
  have sz : sizeLine = 16777216 := sizeLine_eq
  refine PySem.P.mul_str (by rw [decide_eq_false (by omega), decide_eq_false (by omega)]; rfl) (fun c _ => ?_) (fun _ _ => ?_) ?_
  · have e1 : ((z.length * k.toNat : Nat) : Int) = (z.length : Int) * k := by
      rw [Int.natCast_mul, Int.toNat_of_nonneg h0]
    have := Int.le_ediv_of_mul_le (a := (z.length : Int)) (b := 2 ^ 63 - 1) (c := k) (by omega) (by rw [← e1]; omega)
    omega
  · unfold Builtin.Str.tooLong
    exact decide_eq_false (by omega)
  · by_cases c1 : k < 1
    · rw [if_pos c1]
      have e : k.toNat = 0 := by omega
      rw [e] at q
      exact ⟨by rw [sz]; decide, .str _, H, I.tok _, ⟨_, rfl⟩, q⟩
    · rw [if_neg c1]
      by_cases c2 : (k == 1 || z.length == 0) = true
      · rw [if_pos c2]
        have e : repS z k.toNat = z := by
          rcases (Bool.or_eq_true _ _).mp c2 with c | c
          · have : k.toNat = 1 := by have := eq_of_beq c; omega
            rw [this, repS_one]
          · have : z.cps.size = 0 := eq_of_beq c
            have e0 : z = ⟨#[]⟩ := by cases z; congr 1; exact Array.eq_empty_of_size_eq_zero this
            subst e0
            unfold repS
            rw [fold_emp]
        rw [e] at q
        exact ⟨.str _, H, I, ⟨_, rfl⟩, q⟩
      · rw [if_neg c2]
        refine ⟨?_, .str _, H, I.tok _, ⟨_, rfl⟩, q⟩
        have : ∀ n : Nat, ((List.replicate n z.cps).foldl (· ++ ·) #[]).size = n * z.cps.size := fun n => by
          have g : ∀ (n : Nat) (a : Array Nat), ((List.replicate n z.cps).foldl (· ++ ·) a).size = a.size + n * z.cps.size := fun n => by
            induction n with
            | zero => intro a; simp
            | succ n ih => intro a; rw [List.replicate_succ, List.foldl_cons, ih, Array.size_append, Nat.succ_mul]; omega
          rw [g]; simp
        show ((List.replicate k.toNat z.cps).foldl (· ++ ·) #[]).size ≤ _
        rw [this, Nat.mul_comm]
        show z.length * k.toNat ≤ _
        omega
end
end My

/-! KitLA -/
/-! isinstance of a caught error that has attributes of its own -/
namespace My
section
open PySem PySem.Spec PySem.Calls PyProof.Rows PySem.W
variable {prog : Program} {w : World} {A : Around} {E : Value → Shared → Prop} {s : Shared} {K : Frag} {x D : Addr} {ox : Obj}
theorem found_class {C : Addr} {od : Option Obj} {name : Str} {a g : Value} (hc : hasDictIn K C = true) (ha : findIn K (.ref C) name = some (some a)) (hg : specialIn K a "__get__" = some (some g)) (ht : takesIn K a = some true) : findObj K C od name = some (.bind g a) := by
  obtain ⟨cd, e, _⟩ := any_some hc
  unfold findObj
  simp only [e, ha, hg, ht, Option.bind_some]
/-- e.__class__, whatever e has of its own -/
theorem class_of_exc {od : Option Obj} {Q : Option Value → Shared → Prop} (c : L2.ExcC K D) (X : K.In s.heap) (I : InstAt s.heap x ox D od) (h : Q (some (.ref D)) { s with toks := s.toks + 1 }) : wpAny (model prog w) A (getAttr? (.ref x) "__class__") Q E s := by
  have hf := found_class (od := od) c.hd c.ha c.hn c.ht
  obtain ⟨hp, g, d, t, os⟩ := s
  have L0 := I.type (M := model prog w)
  have L3 := looks_find (M := model prog w) X I hf
  have sub : Looks (model prog w) hp (isInstance (.ref x) (.type "BaseException")) true := L0.andThen (looks_subIn X c.hs)
  unfold getAttr? getAttrBy? getAttrBy
  refine wpAny_bind (wpAny_mkText (wpAny_bind (wpAny_attempt (wpAny_holding (wpAny_bind (L0.at (wpAny_bind ((looks_findIn (M := model prog w) X c.hg).at ?_))))))))
  show wpAny _ _ (if (onTheHeap (Value.ref D) && Value.builtin "BaseException.__getattribute__" == Value.builtin "object.__getattribute__") = true then _ else _) _ _ _
  rw [show (onTheHeap (Value.ref D) && Value.builtin "BaseException.__getattribute__" == Value.builtin "object.__getattribute__") = false by rw [show (Value.builtin "BaseException.__getattribute__" == Value.builtin "object.__getattribute__") = false by decide +kernel]; rfl, if_neg Bool.false_ne_true]
  unfold getAttrByItsOwn hookBefore
  refine wpAny_bind ?_
  rw [if_pos (show onTheHeap (Value.ref D) = true from rfl)]
  refine (looks_findIn (M := model prog w) X c.hk).at (wpAny_bind (wpAny_attempt (wpAny_holding ?_)))
  unfold callGetattribute
  rw [show (false && onTheHeap (Value.builtin "BaseException.__getattribute__")) = false from rfl, if_neg Bool.false_ne_true]
  unfold boundAndCalled
  rw [PySem.F.excAttr_ValueError.ga.bind (.ref x)]
  refine wpAny_bind (wpAny_pure ?_)
  show wpAny _ _ (call (.builtin "BaseException.__getattribute__") [.ref x, .str "__class__" t]) _ _ _
  refine wpAny_call (codeAny_call_builtin PySem.F.excAttr_ValueError.ga.plain PySem.F.entry_bexc_ga ?_)
  refine @check_slot (model prog w) _ _ ⟨hp, g, d, t + 1, os⟩ "BaseException.__getattribute__" "BaseException" "__getattribute__" (.ref x) [.str "__class__" t] [] _ (by decide +kernel) (by decide +kernel) sub (PySem.F.args_bexc_ga (.ref x) (.str "__class__" t)) ?_
  unfold Builtin.«object.__getattribute__»
  refine wpAny_bind (wpAny_of_eq (a := ((Value.ref x : Value), [Value.str "__class__" t])) (by first | rfl | (simp only [slotArgs]; rfl)) ?_)
  refine wpAny_bind (wpAny_pure (wpAny_bind (L0.at (wpAny_bind (L3.at ?_)))))
  show wpAny _ _ (holding [Value.builtin "object.__class__"] (call (.builtin "getset_descriptor.__get__") [.builtin "object.__class__", .ref x, .ref D]) >>= ret) _ _ _
  refine wpAny_bind (wpAny_holding (wpAny_call (class_get (s := ⟨hp, g, d, t + 1, os⟩) (ox := ox) (od := od) X I c.hm ?_)))
  refine wpAny_pure ?_
  show wpAny _ _ (handedOut (.ref D)) _ _ _
  rw [handedOut_of (v := .ref D) rfl]
  first
    | exact wpAny_pure (wpAny_pure h)
    | exact wpAny_pure h
    | exact wpAny_pure (wpAny_bind (wpAny_pure (wpAny_pure h)))
theorem kit_exc {od : Option Obj} (c : L2.ExcC K D) : KitX K (.ref x) (.ref D) (fun h => InstAt h x ox D od) where
  ty := fun _ _ _ I => I.type
  it := fun _ _ X _ => by
    obtain ⟨cd, e, _⟩ := any_some c.hd
    intro A' Q' E' s' k q
    unfold clsIn at e
    split at e
    · rename_i c' d' cd' sl' ho
      unfold isType loadHead
      exact wpAny_bind (wpAny_loadPart (k _ _ (X _ _ ho)) (wpAny_pure q))
    · cases e
  ne := (handS_kitx_exc (x := x) (ox := ox) c.hg c.hk c.hs c.hd c.ha c.hn c.ht c.hm).ne
  ca := fun X I k => class_of_exc c X I k
end
section
open PySem PySem.Spec PyProof.Rows L2
/-- isinstance(e, c), e the exception that the suite holds, with a dict of its own -/
def rIsX (K : PySem.W.Frag) (D a : Addr) (cls : Value) (d : Option Addr) : List V → Hp → VK → Prop := fun xs H Q => cls = .ref D ∧ (∃ dd fs, d = some dd ∧ H dd = some (.xd fs)) ∧ ∃ (c : V) (cv : Value) (b : Bool), xs = [.ref a, c] ∧ (∀ u, RelV c u → u = cv) ∧ PySem.W.kitOne K (.ref D) cv = some b ∧ Q (.bl b) H
theorem call_isX {X : Cx} {a D : Addr} {oe : Obj} {cls : Value} {d : Option Addr} {pn : List (Addr × Obj)} (C : ExcC X.K D) (hz : Zc cls d oe) (hf : ∃ vs, oe.data = .fields vs) : CallR (X.suite a ((a, oe) :: pn)) (.builtin "isinstance") (rIsX X.K D a cls d) := by
  intro pins s σ H xs us Q I r h
  obtain ⟨ec, ⟨dd, fs, ed, hdd⟩, c, cv, b, rfl, hcv, e, q⟩ := h
  subst ec
  subst ed
  cases r with
  | cons rx rr =>
    cases rr with
    | cons rt rr =>
      cases rr
      cases rx
      have ecv := hcv _ rt
      subst ecv
      obtain ⟨hget, _⟩ := I.pin (a, oe) (List.mem_append_left _ List.mem_cons_self)
      obtain ⟨vs, hv⟩ := hf
      have hx : ObjOk X.prog X.w H s.heap dd (.xd fs) := I.hok dd _ hdd
      obtain ⟨mA, hns, _⟩ := hx
      obtain ⟨od, ho, _⟩ := lookIn_ns hns
      have J : PySem.W.InstAt s.heap a oe D (some od) := ⟨hget, hz.1, by unfold PySem.W.notCls; rw [hv] <;> rfl, by rw [hz.2]; exact ho⟩
      exact PySem.W.kia_one (kit_exc C) I.kIn J e (fun z => nomatch z) fun tk => ⟨.bl b, H, I.kept (t' := tk) fun _ _ z => z, rfl, q⟩
/-- x is not True (or False), x a bool or None -/
theorem op_notB {X : Cx} : OpR X (compareOp .IsNot) (fun x y H Q => ∃ c, y = .bl c ∧ ((∃ b, x = .bl b ∧ Q (.bl (!(b == c))) H) ∨ (x = .non ∧ Q (.bl true) H))) := by
  intro pins s σ H x y v u Q I rx ry h
  obtain ⟨c, rfl, h⟩ := h
  cases ry
  show wpAny _ _ ((isSame v (Value.bool c)) >>= fun z => pure (Value.bool (!z))) _ _ s
  rcases h with ⟨b, rfl, q⟩ | ⟨rfl, q⟩
  · cases rx
    refine wpAny_bind (wpAny_isSame_plain rfl (wpAny_pure ?_))
    have e : (Value.bool b == Value.bool c) = (b == c) := by cases b <;> cases c <;> decide
    rw [e]
    exact fin_bl I q rfl
  · cases rx
    refine wpAny_bind (wpAny_isSame_plain rfl (wpAny_pure ?_))
    have e : (Value.none == Value.bool c) = false := by cases c <;> decide
    rw [e]
    exact fin_bl I q rfl
end
end My

/-! A -/
namespace My
open PySem L2
/-! ### the text by places -/
def top (i : Nat) : Stmt := PySem.Challenge.pw_selfwritten_k03_chosen_lifted_and_writte.main.body.getD i (.Pass ⟨0, 0, 0, 0⟩)
abbrev s_TooMany_init : Stmt := inClass (top 7) 0
abbrev s_BadNumber_init : Stmt := inClass (top 3) 0
abbrev s_BadWords_init : Stmt := inClass (top 4) 0
abbrev s_BadOp_init : Stmt := inClass (top 6) 0
abbrev s_op_word : Stmt := top 11
abbrev s_shortened : Stmt := top 12
abbrev s_shortened_and : Stmt := top 13
abbrev s_shortened_twice : Stmt := top 14
abbrev s_is_int : Stmt := top 16
abbrev s_is_row : Stmt := top 17
abbrev s_check_int : Stmt := top 18
abbrev s_ones : Stmt := top 19
abbrev s_lifted : Stmt := top 21
abbrev s_p_init : Stmt := inClass (top 25) 0
abbrev s_p_len : Stmt := inClass (top 25) 1
abbrev s_p_iter : Stmt := inClass (top 25) 2
abbrev s_p_check_part : Stmt := inClass (top 25) 4
abbrev s_p_check_parts : Stmt := inClass (top 25) 5
abbrev s_p_num : Stmt := inClass (top 25) 6
abbrev s_p_unknown : Stmt := inClass (top 25) 7
abbrev s_p_apply : Stmt := inClass (top 25) 8
abbrev s_p_part : Stmt := inClass (top 25) 9
abbrev s_p_value : Stmt := inClass (top 25) 10
abbrev s_p_reached : Stmt := inClass (top 25) 11
abbrev s_p_reached_by : Stmt := inClass (top 25) 12
abbrev s_p_chosen : Stmt := inClass (top 25) 14
abbrev s_p_carry : Stmt := inClass (top 25) 15
abbrev s_p_made : Stmt := inClass (top 25) 16
abbrev s_p_word : Stmt := inClass (top 25) 17
abbrev s_p_gets : Stmt := inClass (top 25) 18
abbrev s_number_of : Stmt := top 28
abbrev s_part_text : Stmt := top 31
abbrev s_size : Stmt := top 32
abbrev s_part_of_words : Stmt := top 33
abbrev s_operand : Stmt := top 34
abbrev s_word_of : Stmt := top 35
abbrev s_check_tokens : Stmt := top 36
abbrev s_law_draws : Stmt := top 38
abbrev s_law_take : Stmt := top 39
abbrev s_law_word : Stmt := top 40
abbrev s_law_is_int : Stmt := top 41
abbrev s_law_op : Stmt := top 42
abbrev s_law_ops : Stmt := top 43
abbrev s_law_term_rows : Stmt := top 44
abbrev s_law_row_words : Stmt := top 45
abbrev s_law_keep : Stmt := top 46
abbrev s_law_short : Stmt := top 47
abbrev s_law_apply : Stmt := top 48
abbrev s_law_part : Stmt := top 49
abbrev s_law_asked : Stmt := top 50
abbrev s_law_all_made : Stmt := top 51
abbrev s_law_due_chosen : Stmt := top 52
abbrev s_law_chosen_carry : Stmt := top 53
abbrev s_law_lifted_told : Stmt := top 54
abbrev s_law_lifted_well : Stmt := top 55
abbrev s_law_tokens : Stmt := top 56
abbrev s_law_text_is : Stmt := top 57
abbrev s_law_read : Stmt := top 58
abbrev s_law_spoiled : Stmt := top 59
abbrev s_law_read_new : Stmt := top 60
abbrev s_law_written : Stmt := top 61
abbrev s_law_odd_letters : Stmt := top 62
abbrev s_law_long_texts : Stmt := top 63
abbrev s_law : Stmt := top 64
theorem sc_TooMany_init : FnScope ["self", "name"] ["self", "name"] (defScope s_TooMany_init) := ⟨rfl, rfl, rfl, by decide +kernel, rfl, by decide +kernel, by decide +kernel⟩
theorem sc_BadNumber_init : FnScope ["self", "name"] ["self", "name"] (defScope s_BadNumber_init) := ⟨rfl, rfl, rfl, by decide +kernel, rfl, by decide +kernel, by decide +kernel⟩
theorem sc_BadWords_init : FnScope ["self", "at"] ["self", "at"] (defScope s_BadWords_init) := ⟨rfl, rfl, rfl, by decide +kernel, rfl, by decide +kernel, by decide +kernel⟩
theorem sc_BadOp_init : FnScope ["self", "op"] ["self", "op"] (defScope s_BadOp_init) := ⟨rfl, rfl, rfl, by decide +kernel, rfl, by decide +kernel, by decide +kernel⟩
theorem sc_op_word : FnScope ["name", "one", "other", "width"] ["name", "one", "other", "width"] (defScope s_op_word) := ⟨rfl, rfl, rfl, by decide +kernel, rfl, by decide +kernel, by decide +kernel⟩
theorem sc_shortened : FnScope ["name", "first", "second", "equal", "most"] ["name", "first", "second", "equal", "most"] (defScope s_shortened) := ⟨rfl, rfl, rfl, by decide +kernel, rfl, by decide +kernel, by decide +kernel⟩
theorem sc_shortened_and : FnScope ["first", "second", "equal", "most"] ["first", "second", "equal", "most"] (defScope s_shortened_and) := ⟨rfl, rfl, rfl, by decide +kernel, rfl, by decide +kernel, by decide +kernel⟩
theorem sc_shortened_twice : FnScope ["name"] ["name"] (defScope s_shortened_twice) := ⟨rfl, rfl, rfl, by decide +kernel, rfl, by decide +kernel, by decide +kernel⟩
theorem sc_is_int : FnScope ["value"] ["value"] (defScope s_is_int) := ⟨rfl, rfl, rfl, by decide +kernel, rfl, by decide +kernel, by decide +kernel⟩
theorem sc_is_row : FnScope ["value"] ["value"] (defScope s_is_row) := ⟨rfl, rfl, rfl, by decide +kernel, rfl, by decide +kernel, by decide +kernel⟩
theorem sc_check_int : FnScope ["value", "low", "high", "name"] ["value", "low", "high", "name"] (defScope s_check_int) := ⟨rfl, rfl, rfl, by decide +kernel, rfl, by decide +kernel, by decide +kernel⟩
theorem sc_ones : FnScope ["width"] ["width"] (defScope s_ones) := ⟨rfl, rfl, rfl, by decide +kernel, rfl, by decide +kernel, by decide +kernel⟩
theorem sc_lifted : FnScope ["pool", "name", "one", "other", "width", "part"] ["pool", "name", "one", "other", "width"] (defScope s_lifted) := ⟨rfl, rfl, rfl, by decide +kernel, rfl, by decide +kernel, by decide +kernel⟩
theorem sc_p_init : FnScope ["self", "width"] ["self", "width"] (defScope s_p_init) := ⟨rfl, rfl, rfl, by decide +kernel, rfl, by decide +kernel, by decide +kernel⟩
theorem sc_p_len : FnScope ["self"] ["self"] (defScope s_p_len) := ⟨rfl, rfl, rfl, by decide +kernel, rfl, by decide +kernel, by decide +kernel⟩
theorem sc_p_iter : FnScope ["self"] ["self"] (defScope s_p_iter) := ⟨rfl, rfl, rfl, by decide +kernel, rfl, by decide +kernel, by decide +kernel⟩
theorem sc_p_check_part : FnScope ["self", "number"] ["self", "number"] (defScope s_p_check_part) := ⟨rfl, rfl, rfl, by decide +kernel, rfl, by decide +kernel, by decide +kernel⟩
theorem sc_p_check_parts : FnScope ["self", "numbers", "number"] ["self", "numbers"] (defScope s_p_check_parts) := ⟨rfl, rfl, rfl, by decide +kernel, rfl, by decide +kernel, by decide +kernel⟩
theorem sc_p_num : FnScope ["self", "value"] ["self", "value"] (defScope s_p_num) := ⟨rfl, rfl, rfl, by decide +kernel, rfl, by decide +kernel, by decide +kernel⟩
theorem sc_p_unknown : FnScope ["self", "number"] ["self", "number"] (defScope s_p_unknown) := ⟨rfl, rfl, rfl, by decide +kernel, rfl, by decide +kernel, by decide +kernel⟩
theorem sc_p_apply : FnScope ["self", "name", "one", "other", "first", "second", "short"] ["self", "name", "one", "other"] (defScope s_p_apply) := ⟨rfl, rfl, rfl, by decide +kernel, rfl, by decide +kernel, by decide +kernel⟩
theorem sc_p_part : FnScope ["self", "number"] ["self", "number"] (defScope s_p_part) := ⟨rfl, rfl, rfl, by decide +kernel, rfl, by decide +kernel, by decide +kernel⟩
theorem sc_p_value : FnScope ["self", "number", "words", "numbers", "i", "found", "at", "part"] ["self", "number", "words"] (defScope s_p_value) := ⟨rfl, rfl, rfl, by decide +kernel, rfl, by decide +kernel, by decide +kernel⟩
theorem sc_p_reached : FnScope ["self", "number"] ["self", "number"] (defScope s_p_reached) := ⟨rfl, rfl, rfl, by decide +kernel, rfl, by decide +kernel, by decide +kernel⟩
theorem sc_p_reached_by : FnScope ["self", "numbers", "found", "waiting", "part", "operand", "number"] ["self", "numbers"] (defScope s_p_reached_by) := ⟨rfl, rfl, rfl, by decide +kernel, rfl, by decide +kernel, by decide +kernel⟩
theorem sc_p_chosen : FnScope ["self", "test", "one", "other", "number", "apart", "is_zero", "mask"] ["self", "test", "one", "other"] (defScope s_p_chosen) := ⟨rfl, rfl, rfl, by decide +kernel, rfl, by decide +kernel, by decide +kernel⟩
theorem sc_p_carry : FnScope ["self", "one", "other"] ["self", "one", "other"] (defScope s_p_carry) := ⟨rfl, rfl, rfl, by decide +kernel, rfl, by decide +kernel, by decide +kernel⟩
theorem sc_p_made : FnScope ["self", "part"] ["self", "part"] (defScope s_p_made) := ⟨rfl, rfl, rfl, by decide +kernel, rfl, by decide +kernel, by decide +kernel⟩
theorem sc_p_word : FnScope ["self", "number", "part"] ["self", "number"] (defScope s_p_word) := ⟨rfl, rfl, rfl, by decide +kernel, rfl, by decide +kernel, by decide +kernel⟩
theorem sc_p_gets : FnScope ["self", "numbers", "parts", "number", "part"] ["self", "numbers"] (defScope s_p_gets) := ⟨rfl, rfl, rfl, by decide +kernel, rfl, by decide +kernel, by decide +kernel⟩
theorem sc_number_of : FnScope ["token"] ["token"] (defScope s_number_of) := ⟨rfl, rfl, rfl, by decide +kernel, rfl, by decide +kernel, by decide +kernel⟩
theorem sc_part_text : FnScope ["pool", "part", "tokens", "waiting", "row"] ["pool", "part"] (defScope s_part_text) := ⟨rfl, rfl, rfl, by decide +kernel, rfl, by decide +kernel, by decide +kernel⟩
theorem sc_size : FnScope ["pool", "part", "sizes", "number", "row"] ["pool", "part"] (defScope s_size) := ⟨rfl, rfl, rfl, by decide +kernel, rfl, by decide +kernel, by decide +kernel⟩
theorem sc_part_of_words : FnScope ["pool", "words", "letters", "waiting", "part", "token", "name", "one", "_"] ["pool", "words", "letters"] (defScope s_part_of_words) := ⟨rfl, rfl, rfl, by decide +kernel, rfl, by decide +kernel, by decide +kernel⟩
theorem sc_operand : FnScope ["pool", "token", "letters", "value"] ["pool", "token", "letters"] (defScope s_operand) := ⟨rfl, rfl, rfl, by decide +kernel, rfl, by decide +kernel, by decide +kernel⟩
theorem sc_word_of : FnScope ["pool", "token", "value"] ["pool", "token"] (defScope s_word_of) := ⟨rfl, rfl, rfl, by decide +kernel, rfl, by decide +kernel, by decide +kernel⟩
theorem sc_check_tokens : FnScope ["pool", "words", "letters", "missing", "at", "token"] ["pool", "words", "letters"] (defScope s_check_tokens) := ⟨rfl, rfl, rfl, by decide +kernel, rfl, by decide +kernel, by decide +kernel⟩
theorem sc_law_draws : FnScope ["_law_script", "_law_numbers", "_law_at", "_law_cell", "_law_sign", "_law_turn", "_law_mixed"] ["_law_script"] (defScope s_law_draws) := ⟨rfl, rfl, rfl, by decide +kernel, rfl, by decide +kernel, by decide +kernel⟩
theorem sc_law_take : FnScope ["_law_draws_here", "_law_many", "_law_at"] ["_law_draws_here", "_law_many"] (defScope s_law_take) := ⟨rfl, rfl, rfl, by decide +kernel, rfl, by decide +kernel, by decide +kernel⟩
theorem sc_law_word : FnScope ["_law_draws_here", "_law_width", "_law_high", "_law_low", "_law_special"] ["_law_draws_here", "_law_width"] (defScope s_law_word) := ⟨rfl, rfl, rfl, by decide +kernel, rfl, by decide +kernel, by decide +kernel⟩
theorem sc_law_is_int : FnScope ["_law_thing"] ["_law_thing"] (defScope s_law_is_int) := ⟨rfl, rfl, rfl, by decide +kernel, rfl, by decide +kernel, by decide +kernel⟩
theorem sc_law_op : FnScope ["_law_name", "_law_one", "_law_other", "_law_width"] ["_law_name", "_law_one", "_law_other", "_law_width"] (defScope s_law_op) := ⟨rfl, rfl, rfl, by decide +kernel, rfl, by decide +kernel, by decide +kernel⟩
theorem sc_law_ops : FnScope [] [] (defScope s_law_ops) := ⟨rfl, rfl, rfl, by decide +kernel, rfl, by decide +kernel, by decide +kernel⟩
theorem sc_law_term_rows : FnScope ["_law_draws_here", "_law_unknowns", "_law_width", "_law_many", "_law_plain", "_law_rows", "_law_i", "_law_turn", "_law_names", "_law_name", "_law_one", "_law_other"] ["_law_draws_here", "_law_unknowns", "_law_width", "_law_many", "_law_plain"] (defScope s_law_term_rows) := ⟨rfl, rfl, rfl, by decide +kernel, rfl, by decide +kernel, by decide +kernel⟩
theorem sc_law_row_words : FnScope ["_law_rows", "_law_words", "_law_width", "_law_found", "_law_row"] ["_law_rows", "_law_words", "_law_width"] (defScope s_law_row_words) := ⟨rfl, rfl, rfl, by decide +kernel, rfl, by decide +kernel, by decide +kernel⟩
theorem sc_law_keep : FnScope ["_law_parts", "_law_part_here", "_law_at"] ["_law_parts", "_law_part_here"] (defScope s_law_keep) := ⟨rfl, rfl, rfl, by decide +kernel, rfl, by decide +kernel, by decide +kernel⟩
theorem sc_law_short : FnScope ["_law_parts", "_law_width", "_law_name", "_law_one", "_law_other", "_law_zero"] ["_law_parts", "_law_width", "_law_name", "_law_one", "_law_other"] (defScope s_law_short) := ⟨rfl, rfl, rfl, by decide +kernel, rfl, by decide +kernel, by decide +kernel⟩
theorem sc_law_apply : FnScope ["_law_parts", "_law_width", "_law_name", "_law_one", "_law_other", "_law_found"] ["_law_parts", "_law_width", "_law_name", "_law_one", "_law_other"] (defScope s_law_apply) := ⟨rfl, rfl, rfl, by decide +kernel, rfl, by decide +kernel, by decide +kernel⟩
theorem sc_law_part : FnScope ["_law_parts", "_law_width", "_law_row", "_law_places"] ["_law_parts", "_law_width", "_law_row", "_law_places"] (defScope s_law_part) := ⟨rfl, rfl, rfl, by decide +kernel, rfl, by decide +kernel, by decide +kernel⟩
theorem sc_law_asked : FnScope ["_law_pool", "_law_row", "_law_places"] ["_law_pool", "_law_row", "_law_places"] (defScope s_law_asked) := ⟨rfl, rfl, rfl, by decide +kernel, rfl, by decide +kernel, by decide +kernel⟩
theorem sc_law_all_made : FnScope ["_law_pool", "_law_parts", "_law_width", "_law_rows", "_law_places", "_law_row", "_law_due"] ["_law_pool", "_law_parts", "_law_width", "_law_rows"] (defScope s_law_all_made) := ⟨rfl, rfl, rfl, by decide +kernel, rfl, by decide +kernel, by decide +kernel⟩
theorem sc_law_due_chosen : FnScope ["_law_parts", "_law_width", "_law_test", "_law_one", "_law_other", "_law_mixed", "_law_alike", "_law_mask"] ["_law_parts", "_law_width", "_law_test", "_law_one", "_law_other"] (defScope s_law_due_chosen) := ⟨rfl, rfl, rfl, by decide +kernel, rfl, by decide +kernel, by decide +kernel⟩
theorem sc_law_chosen_carry : FnScope ["_law_draws_here", "_law_pool", "_law_parts", "_law_rows", "_law_places", "_law_words", "_law_width", "_law_due", "_law_test", "_law_one", "_law_other", "_law_told", "_law_wanted", "_law_total"] ["_law_draws_here", "_law_pool", "_law_parts", "_law_rows", "_law_places", "_law_words", "_law_width"] (defScope s_law_chosen_carry) := ⟨rfl, rfl, rfl, by decide +kernel, rfl, by decide +kernel, by decide +kernel⟩
theorem sc_law_lifted_told : FnScope ["_law_pool", "_law_name", "_law_one", "_law_other", "_law_width", "_law_told", "e"] ["_law_pool", "_law_name", "_law_one", "_law_other", "_law_width"] (defScope s_law_lifted_told) := ⟨rfl, rfl, rfl, by decide +kernel, rfl, by decide +kernel, by decide +kernel⟩
theorem sc_law_lifted_well : FnScope ["_law_draws_here", "_law_rows", "_law_words", "_law_width", "_law_wide", "_law_pool", "_law_parts", "_law_places", "_law_row", "_law_due", "_law_told", "_law_at", "_law_bad"] ["_law_draws_here", "_law_rows", "_law_words", "_law_width"] (defScope s_law_lifted_well) := ⟨rfl, rfl, rfl, by decide +kernel, rfl, by decide +kernel, by decide +kernel⟩
theorem sc_law_tokens : FnScope ["_law_parts", "_law_number", "_law_todo", "_law_tokens_here", "_law_turn", "_law_part_here"] ["_law_parts", "_law_number"] (defScope s_law_tokens) := ⟨rfl, rfl, rfl, by decide +kernel, rfl, by decide +kernel, by decide +kernel⟩
theorem sc_law_text_is : FnScope ["_law_pool", "_law_part_here", "_law_tokens_here", "_law_told", "e"] ["_law_pool", "_law_part_here", "_law_tokens_here"] (defScope s_law_text_is) := ⟨rfl, rfl, rfl, by decide +kernel, rfl, by decide +kernel, by decide +kernel⟩
theorem sc_law_read : FnScope ["_law_pool", "_law_tokens_here", "_law_letters", "_law_told", "e"] ["_law_pool", "_law_tokens_here", "_law_letters"] (defScope s_law_read) := ⟨rfl, rfl, rfl, by decide +kernel, rfl, by decide +kernel, by decide +kernel⟩
theorem sc_law_spoiled : FnScope ["_law_draws_here", "_law_pool", "_law_tokens_here", "_law_letters", "_law_before", "_law_turn", "_law_row", "_law_kind", "_law_due"] ["_law_draws_here", "_law_pool", "_law_tokens_here", "_law_letters"] (defScope s_law_spoiled) := ⟨rfl, rfl, rfl, by decide +kernel, rfl, by decide +kernel, by decide +kernel⟩
theorem sc_law_read_new : FnScope ["_law_width", "_law_tokens_here", "_law_fresh", "_law_names", "_law_made", "_law_i", "_law_stack", "_law_waiting", "_law_token", "_law_turn", "_law_other", "_law_one"] ["_law_width", "_law_tokens_here"] (defScope s_law_read_new) := ⟨rfl, rfl, rfl, by decide +kernel, rfl, by decide +kernel, by decide +kernel⟩
theorem sc_law_written : FnScope ["_law_draws_here", "_law_pool", "_law_parts", "_law_width", "_law_number", "_law_tokens_here", "_law_letters", "_law_at"] ["_law_draws_here", "_law_pool", "_law_parts", "_law_width"] (defScope s_law_written) := ⟨rfl, rfl, rfl, by decide +kernel, rfl, by decide +kernel, by decide +kernel⟩
theorem sc_law_odd_letters : FnScope ["_law_draws_here", "_law_pool", "_law_x", "_law_letters", "_law_told", "_law_name"] ["_law_draws_here"] (defScope s_law_odd_letters) := ⟨rfl, rfl, rfl, by decide +kernel, rfl, by decide +kernel, by decide +kernel⟩
theorem sc_law_long_texts : FnScope ["_law_rows", "_law_at", "_law_pool", "_law_parts", "_law_tokens_here"] [] (defScope s_law_long_texts) := ⟨rfl, rfl, rfl, by decide +kernel, rfl, by decide +kernel, by decide +kernel⟩
theorem sc_law : FnScope ["_law_script", "_law_draws_here", "_law_width", "_law_unknowns", "_law_rows", "_law_pool", "_law_parts", "_law_places", "_law_words", "_law_i"] ["_law_script"] (defScope s_law) := ⟨rfl, rfl, rfl, by decide +kernel, rfl, by decide +kernel, by decide +kernel⟩
structure Txt (K : PySem.W.Frag) (mg : Str → Option Value) where
  f_TooMany_init : Addr
  fd_TooMany_init : FuncData
  F_TooMany_init : Fun K "__init__" "TooMany.__init__" s_TooMany_init f_TooMany_init fd_TooMany_init
  b_TooMany_init : Binds K fd_TooMany_init ["self", "name"] []
  f_BadNumber_init : Addr
  fd_BadNumber_init : FuncData
  F_BadNumber_init : Fun K "__init__" "BadNumber.__init__" s_BadNumber_init f_BadNumber_init fd_BadNumber_init
  b_BadNumber_init : Binds K fd_BadNumber_init ["self", "name"] []
  f_BadWords_init : Addr
  fd_BadWords_init : FuncData
  F_BadWords_init : Fun K "__init__" "BadWords.__init__" s_BadWords_init f_BadWords_init fd_BadWords_init
  b_BadWords_init : Binds K fd_BadWords_init ["self", "at"] []
  f_BadOp_init : Addr
  fd_BadOp_init : FuncData
  F_BadOp_init : Fun K "__init__" "BadOp.__init__" s_BadOp_init f_BadOp_init fd_BadOp_init
  b_BadOp_init : Binds K fd_BadOp_init ["self", "op"] []
  f_op_word : Addr
  fd_op_word : FuncData
  F_op_word : Fun K "op_word" "op_word" s_op_word f_op_word fd_op_word
  b_op_word : Binds K fd_op_word ["name", "one", "other", "width"] []
  g_op_word : mg "op_word" = some (.ref f_op_word)
  f_shortened : Addr
  fd_shortened : FuncData
  F_shortened : Fun K "shortened" "shortened" s_shortened f_shortened fd_shortened
  b_shortened : Binds K fd_shortened ["name", "first", "second", "equal", "most"] []
  g_shortened : mg "shortened" = some (.ref f_shortened)
  f_shortened_and : Addr
  fd_shortened_and : FuncData
  F_shortened_and : Fun K "shortened_and" "shortened_and" s_shortened_and f_shortened_and fd_shortened_and
  b_shortened_and : Binds K fd_shortened_and ["first", "second", "equal", "most"] []
  g_shortened_and : mg "shortened_and" = some (.ref f_shortened_and)
  f_shortened_twice : Addr
  fd_shortened_twice : FuncData
  F_shortened_twice : Fun K "shortened_twice" "shortened_twice" s_shortened_twice f_shortened_twice fd_shortened_twice
  b_shortened_twice : Binds K fd_shortened_twice ["name"] []
  g_shortened_twice : mg "shortened_twice" = some (.ref f_shortened_twice)
  f_is_int : Addr
  fd_is_int : FuncData
  F_is_int : Fun K "is_int" "is_int" s_is_int f_is_int fd_is_int
  b_is_int : Binds K fd_is_int ["value"] []
  g_is_int : mg "is_int" = some (.ref f_is_int)
  f_is_row : Addr
  fd_is_row : FuncData
  F_is_row : Fun K "is_row" "is_row" s_is_row f_is_row fd_is_row
  b_is_row : Binds K fd_is_row ["value"] []
  g_is_row : mg "is_row" = some (.ref f_is_row)
  f_check_int : Addr
  fd_check_int : FuncData
  F_check_int : Fun K "check_int" "check_int" s_check_int f_check_int fd_check_int
  b_check_int : Binds K fd_check_int ["value", "low", "high", "name"] []
  g_check_int : mg "check_int" = some (.ref f_check_int)
  f_ones : Addr
  fd_ones : FuncData
  F_ones : Fun K "ones" "ones" s_ones f_ones fd_ones
  b_ones : Binds K fd_ones ["width"] []
  g_ones : mg "ones" = some (.ref f_ones)
  f_lifted : Addr
  fd_lifted : FuncData
  F_lifted : Fun K "lifted" "lifted" s_lifted f_lifted fd_lifted
  b_lifted : Binds K fd_lifted ["pool", "name", "one", "other", "width"] []
  g_lifted : mg "lifted" = some (.ref f_lifted)
  f_p_init : Addr
  fd_p_init : FuncData
  F_p_init : Fun K "__init__" "Pool.__init__" s_p_init f_p_init fd_p_init
  b_p_init : Binds K fd_p_init ["self", "width"] []
  f_p_len : Addr
  fd_p_len : FuncData
  F_p_len : Fun K "__len__" "Pool.__len__" s_p_len f_p_len fd_p_len
  b_p_len : Binds K fd_p_len ["self"] []
  f_p_iter : Addr
  fd_p_iter : FuncData
  F_p_iter : Fun K "__iter__" "Pool.__iter__" s_p_iter f_p_iter fd_p_iter
  b_p_iter : Binds K fd_p_iter ["self"] []
  f_p_check_part : Addr
  fd_p_check_part : FuncData
  F_p_check_part : Fun K "check_part" "Pool.check_part" s_p_check_part f_p_check_part fd_p_check_part
  b_p_check_part : Binds K fd_p_check_part ["self", "number"] []
  f_p_check_parts : Addr
  fd_p_check_parts : FuncData
  F_p_check_parts : Fun K "check_parts" "Pool.check_parts" s_p_check_parts f_p_check_parts fd_p_check_parts
  b_p_check_parts : Binds K fd_p_check_parts ["self", "numbers"] []
  f_p_num : Addr
  fd_p_num : FuncData
  F_p_num : Fun K "num" "Pool.num" s_p_num f_p_num fd_p_num
  b_p_num : Binds K fd_p_num ["self", "value"] []
  f_p_unknown : Addr
  fd_p_unknown : FuncData
  F_p_unknown : Fun K "unknown" "Pool.unknown" s_p_unknown f_p_unknown fd_p_unknown
  b_p_unknown : Binds K fd_p_unknown ["self", "number"] []
  f_p_apply : Addr
  fd_p_apply : FuncData
  F_p_apply : Fun K "apply" "Pool.apply" s_p_apply f_p_apply fd_p_apply
  b_p_apply : Binds K fd_p_apply ["self", "name", "one", "other"] []
  f_p_part : Addr
  fd_p_part : FuncData
  F_p_part : Fun K "part" "Pool.part" s_p_part f_p_part fd_p_part
  b_p_part : Binds K fd_p_part ["self", "number"] []
  f_p_value : Addr
  fd_p_value : FuncData
  F_p_value : Fun K "value" "Pool.value" s_p_value f_p_value fd_p_value
  b_p_value : Binds K fd_p_value ["self", "number", "words"] []
  f_p_reached : Addr
  fd_p_reached : FuncData
  F_p_reached : Fun K "reached" "Pool.reached" s_p_reached f_p_reached fd_p_reached
  b_p_reached : Binds K fd_p_reached ["self", "number"] []
  f_p_reached_by : Addr
  fd_p_reached_by : FuncData
  F_p_reached_by : Fun K "reached_by" "Pool.reached_by" s_p_reached_by f_p_reached_by fd_p_reached_by
  b_p_reached_by : Binds K fd_p_reached_by ["self", "numbers"] []
  f_p_chosen : Addr
  fd_p_chosen : FuncData
  F_p_chosen : Fun K "chosen" "Pool.chosen" s_p_chosen f_p_chosen fd_p_chosen
  b_p_chosen : Binds K fd_p_chosen ["self", "test", "one", "other"] []
  f_p_carry : Addr
  fd_p_carry : FuncData
  F_p_carry : Fun K "carry" "Pool.carry" s_p_carry f_p_carry fd_p_carry
  b_p_carry : Binds K fd_p_carry ["self", "one", "other"] []
  f_p_made : Addr
  fd_p_made : FuncData
  F_p_made : Fun K "_made" "Pool._made" s_p_made f_p_made fd_p_made
  b_p_made : Binds K fd_p_made ["self", "part"] []
  f_p_word : Addr
  fd_p_word : FuncData
  F_p_word : Fun K "_word" "Pool._word" s_p_word f_p_word fd_p_word
  b_p_word : Binds K fd_p_word ["self", "number"] []
  f_p_gets : Addr
  fd_p_gets : FuncData
  F_p_gets : Fun K "_gets" "Pool._gets" s_p_gets f_p_gets fd_p_gets
  b_p_gets : Binds K fd_p_gets ["self", "numbers"] []
  f_number_of : Addr
  fd_number_of : FuncData
  F_number_of : Fun K "number_of" "number_of" s_number_of f_number_of fd_number_of
  b_number_of : Binds K fd_number_of ["token"] []
  g_number_of : mg "number_of" = some (.ref f_number_of)
  f_part_text : Addr
  fd_part_text : FuncData
  F_part_text : Fun K "part_text" "part_text" s_part_text f_part_text fd_part_text
  b_part_text : Binds K fd_part_text ["pool", "part"] []
  g_part_text : mg "part_text" = some (.ref f_part_text)
  f_size : Addr
  fd_size : FuncData
  F_size : Fun K "_size" "_size" s_size f_size fd_size
  b_size : Binds K fd_size ["pool", "part"] []
  g_size : mg "_size" = some (.ref f_size)
  f_part_of_words : Addr
  fd_part_of_words : FuncData
  F_part_of_words : Fun K "part_of_words" "part_of_words" s_part_of_words f_part_of_words fd_part_of_words
  b_part_of_words : Binds K fd_part_of_words ["pool", "words", "letters"] []
  g_part_of_words : mg "part_of_words" = some (.ref f_part_of_words)
  f_operand : Addr
  fd_operand : FuncData
  F_operand : Fun K "_operand" "_operand" s_operand f_operand fd_operand
  b_operand : Binds K fd_operand ["pool", "token", "letters"] []
  g_operand : mg "_operand" = some (.ref f_operand)
  f_word_of : Addr
  fd_word_of : FuncData
  F_word_of : Fun K "_word_of" "_word_of" s_word_of f_word_of fd_word_of
  b_word_of : Binds K fd_word_of ["pool", "token"] []
  g_word_of : mg "_word_of" = some (.ref f_word_of)
  f_check_tokens : Addr
  fd_check_tokens : FuncData
  F_check_tokens : Fun K "_check_tokens" "_check_tokens" s_check_tokens f_check_tokens fd_check_tokens
  b_check_tokens : Binds K fd_check_tokens ["pool", "words", "letters"] []
  g_check_tokens : mg "_check_tokens" = some (.ref f_check_tokens)
  f_law_draws : Addr
  fd_law_draws : FuncData
  F_law_draws : Fun K "_law_draws" "_law_draws" s_law_draws f_law_draws fd_law_draws
  b_law_draws : Binds K fd_law_draws ["_law_script"] []
  g_law_draws : mg "_law_draws" = some (.ref f_law_draws)
  f_law_take : Addr
  fd_law_take : FuncData
  F_law_take : Fun K "_law_take" "_law_take" s_law_take f_law_take fd_law_take
  b_law_take : Binds K fd_law_take ["_law_draws_here", "_law_many"] []
  g_law_take : mg "_law_take" = some (.ref f_law_take)
  f_law_word : Addr
  fd_law_word : FuncData
  F_law_word : Fun K "_law_word" "_law_word" s_law_word f_law_word fd_law_word
  b_law_word : Binds K fd_law_word ["_law_draws_here", "_law_width"] []
  g_law_word : mg "_law_word" = some (.ref f_law_word)
  f_law_is_int : Addr
  fd_law_is_int : FuncData
  F_law_is_int : Fun K "_law_is_int" "_law_is_int" s_law_is_int f_law_is_int fd_law_is_int
  b_law_is_int : Binds K fd_law_is_int ["_law_thing"] []
  g_law_is_int : mg "_law_is_int" = some (.ref f_law_is_int)
  f_law_op : Addr
  fd_law_op : FuncData
  F_law_op : Fun K "_law_op" "_law_op" s_law_op f_law_op fd_law_op
  b_law_op : Binds K fd_law_op ["_law_name", "_law_one", "_law_other", "_law_width"] []
  g_law_op : mg "_law_op" = some (.ref f_law_op)
  f_law_ops : Addr
  fd_law_ops : FuncData
  F_law_ops : Fun K "_law_ops" "_law_ops" s_law_ops f_law_ops fd_law_ops
  b_law_ops : Binds K fd_law_ops [] []
  g_law_ops : mg "_law_ops" = some (.ref f_law_ops)
  f_law_term_rows : Addr
  fd_law_term_rows : FuncData
  F_law_term_rows : Fun K "_law_term_rows" "_law_term_rows" s_law_term_rows f_law_term_rows fd_law_term_rows
  b_law_term_rows : Binds K fd_law_term_rows ["_law_draws_here", "_law_unknowns", "_law_width", "_law_many", "_law_plain"] []
  g_law_term_rows : mg "_law_term_rows" = some (.ref f_law_term_rows)
  f_law_row_words : Addr
  fd_law_row_words : FuncData
  F_law_row_words : Fun K "_law_row_words" "_law_row_words" s_law_row_words f_law_row_words fd_law_row_words
  b_law_row_words : Binds K fd_law_row_words ["_law_rows", "_law_words", "_law_width"] []
  g_law_row_words : mg "_law_row_words" = some (.ref f_law_row_words)
  f_law_keep : Addr
  fd_law_keep : FuncData
  F_law_keep : Fun K "_law_keep" "_law_keep" s_law_keep f_law_keep fd_law_keep
  b_law_keep : Binds K fd_law_keep ["_law_parts", "_law_part_here"] []
  g_law_keep : mg "_law_keep" = some (.ref f_law_keep)
  f_law_short : Addr
  fd_law_short : FuncData
  F_law_short : Fun K "_law_short" "_law_short" s_law_short f_law_short fd_law_short
  b_law_short : Binds K fd_law_short ["_law_parts", "_law_width", "_law_name", "_law_one", "_law_other"] []
  g_law_short : mg "_law_short" = some (.ref f_law_short)
  f_law_apply : Addr
  fd_law_apply : FuncData
  F_law_apply : Fun K "_law_apply" "_law_apply" s_law_apply f_law_apply fd_law_apply
  b_law_apply : Binds K fd_law_apply ["_law_parts", "_law_width", "_law_name", "_law_one", "_law_other"] []
  g_law_apply : mg "_law_apply" = some (.ref f_law_apply)
  f_law_part : Addr
  fd_law_part : FuncData
  F_law_part : Fun K "_law_part" "_law_part" s_law_part f_law_part fd_law_part
  b_law_part : Binds K fd_law_part ["_law_parts", "_law_width", "_law_row", "_law_places"] []
  g_law_part : mg "_law_part" = some (.ref f_law_part)
  f_law_asked : Addr
  fd_law_asked : FuncData
  F_law_asked : Fun K "_law_asked" "_law_asked" s_law_asked f_law_asked fd_law_asked
  b_law_asked : Binds K fd_law_asked ["_law_pool", "_law_row", "_law_places"] []
  g_law_asked : mg "_law_asked" = some (.ref f_law_asked)
  f_law_all_made : Addr
  fd_law_all_made : FuncData
  F_law_all_made : Fun K "_law_all_made" "_law_all_made" s_law_all_made f_law_all_made fd_law_all_made
  b_law_all_made : Binds K fd_law_all_made ["_law_pool", "_law_parts", "_law_width", "_law_rows"] []
  g_law_all_made : mg "_law_all_made" = some (.ref f_law_all_made)
  f_law_due_chosen : Addr
  fd_law_due_chosen : FuncData
  F_law_due_chosen : Fun K "_law_due_chosen" "_law_due_chosen" s_law_due_chosen f_law_due_chosen fd_law_due_chosen
  b_law_due_chosen : Binds K fd_law_due_chosen ["_law_parts", "_law_width", "_law_test", "_law_one", "_law_other"] []
  g_law_due_chosen : mg "_law_due_chosen" = some (.ref f_law_due_chosen)
  f_law_chosen_carry : Addr
  fd_law_chosen_carry : FuncData
  F_law_chosen_carry : Fun K "_law_chosen_carry" "_law_chosen_carry" s_law_chosen_carry f_law_chosen_carry fd_law_chosen_carry
  b_law_chosen_carry : Binds K fd_law_chosen_carry ["_law_draws_here", "_law_pool", "_law_parts", "_law_rows", "_law_places", "_law_words", "_law_width"] []
  g_law_chosen_carry : mg "_law_chosen_carry" = some (.ref f_law_chosen_carry)
  f_law_lifted_told : Addr
  fd_law_lifted_told : FuncData
  F_law_lifted_told : Fun K "_law_lifted_told" "_law_lifted_told" s_law_lifted_told f_law_lifted_told fd_law_lifted_told
  b_law_lifted_told : Binds K fd_law_lifted_told ["_law_pool", "_law_name", "_law_one", "_law_other", "_law_width"] []
  g_law_lifted_told : mg "_law_lifted_told" = some (.ref f_law_lifted_told)
  f_law_lifted_well : Addr
  fd_law_lifted_well : FuncData
  F_law_lifted_well : Fun K "_law_lifted_well" "_law_lifted_well" s_law_lifted_well f_law_lifted_well fd_law_lifted_well
  b_law_lifted_well : Binds K fd_law_lifted_well ["_law_draws_here", "_law_rows", "_law_words", "_law_width"] []
  g_law_lifted_well : mg "_law_lifted_well" = some (.ref f_law_lifted_well)
  f_law_tokens : Addr
  fd_law_tokens : FuncData
  F_law_tokens : Fun K "_law_tokens" "_law_tokens" s_law_tokens f_law_tokens fd_law_tokens
  b_law_tokens : Binds K fd_law_tokens ["_law_parts", "_law_number"] []
  g_law_tokens : mg "_law_tokens" = some (.ref f_law_tokens)
  f_law_text_is : Addr
  fd_law_text_is : FuncData
  F_law_text_is : Fun K "_law_text_is" "_law_text_is" s_law_text_is f_law_text_is fd_law_text_is
  b_law_text_is : Binds K fd_law_text_is ["_law_pool", "_law_part_here", "_law_tokens_here"] []
  g_law_text_is : mg "_law_text_is" = some (.ref f_law_text_is)
  f_law_read : Addr
  fd_law_read : FuncData
  F_law_read : Fun K "_law_read" "_law_read" s_law_read f_law_read fd_law_read
  b_law_read : Binds K fd_law_read ["_law_pool", "_law_tokens_here", "_law_letters"] []
  g_law_read : mg "_law_read" = some (.ref f_law_read)
  f_law_spoiled : Addr
  fd_law_spoiled : FuncData
  F_law_spoiled : Fun K "_law_spoiled" "_law_spoiled" s_law_spoiled f_law_spoiled fd_law_spoiled
  b_law_spoiled : Binds K fd_law_spoiled ["_law_draws_here", "_law_pool", "_law_tokens_here", "_law_letters"] []
  g_law_spoiled : mg "_law_spoiled" = some (.ref f_law_spoiled)
  f_law_read_new : Addr
  fd_law_read_new : FuncData
  F_law_read_new : Fun K "_law_read_new" "_law_read_new" s_law_read_new f_law_read_new fd_law_read_new
  b_law_read_new : Binds K fd_law_read_new ["_law_width", "_law_tokens_here"] []
  g_law_read_new : mg "_law_read_new" = some (.ref f_law_read_new)
  f_law_written : Addr
  fd_law_written : FuncData
  F_law_written : Fun K "_law_written" "_law_written" s_law_written f_law_written fd_law_written
  b_law_written : Binds K fd_law_written ["_law_draws_here", "_law_pool", "_law_parts", "_law_width"] []
  g_law_written : mg "_law_written" = some (.ref f_law_written)
  f_law_odd_letters : Addr
  fd_law_odd_letters : FuncData
  F_law_odd_letters : Fun K "_law_odd_letters" "_law_odd_letters" s_law_odd_letters f_law_odd_letters fd_law_odd_letters
  b_law_odd_letters : Binds K fd_law_odd_letters ["_law_draws_here"] []
  g_law_odd_letters : mg "_law_odd_letters" = some (.ref f_law_odd_letters)
  f_law_long_texts : Addr
  fd_law_long_texts : FuncData
  F_law_long_texts : Fun K "_law_long_texts" "_law_long_texts" s_law_long_texts f_law_long_texts fd_law_long_texts
  b_law_long_texts : Binds K fd_law_long_texts [] []
  g_law_long_texts : mg "_law_long_texts" = some (.ref f_law_long_texts)
  f_law : Addr
  fd_law : FuncData
  F_law : Fun K "law" "law" s_law f_law fd_law
  b_law : Binds K fd_law ["_law_script"] []
  g_law : mg "law" = some (.ref f_law)
  C : Addr
  cl : Cls K C
  g_Pool : mg "Pool" = some (.ref C)
  M_Pool : Mk K C f_p_init
  m_p_init : Meth K C "__init__" f_p_init
  m_p_len : Meth K C "__len__" f_p_len
  m_p_iter : Meth K C "__iter__" f_p_iter
  m_p_check_part : Meth K C "check_part" f_p_check_part
  m_p_check_parts : Meth K C "check_parts" f_p_check_parts
  m_p_num : Meth K C "num" f_p_num
  m_p_unknown : Meth K C "unknown" f_p_unknown
  m_p_apply : Meth K C "apply" f_p_apply
  m_p_part : Meth K C "part" f_p_part
  m_p_value : Meth K C "value" f_p_value
  m_p_reached : Meth K C "reached" f_p_reached
  m_p_reached_by : Meth K C "reached_by" f_p_reached_by
  m_p_chosen : Meth K C "chosen" f_p_chosen
  m_p_carry : Meth K C "carry" f_p_carry
  m_p_made : Meth K C "_made" f_p_made
  m_p_word : Meth K C "_word" f_p_word
  m_p_gets : Meth K C "_gets" f_p_gets
  nA_width : NoAttr K C "width"
  nA__most : NoAttr K C "_most"
  nA__parts : NoAttr K C "_parts"
  nA__numbers : NoAttr K C "_numbers"
  t_MOST_PARTS : Tok
  c_MOST_PARTS : mg "MOST_PARTS" = some (.int 4000 t_MOST_PARTS)
  t_LAST_UNKNOWN : Tok
  c_LAST_UNKNOWN : mg "LAST_UNKNOWN" = some (.int 63 t_LAST_UNKNOWN)
  a_OPS : Addr
  c_OPS : mg "OPS" = some (.ref a_OPS)
  v_OPS : ∀ H, SqT K H a_OPS [.str "add", .str "sub", .str "and", .str "or", .str "xor", .str "less", .str "same"]
  a_EITHER_WAY : Addr
  c_EITHER_WAY : mg "EITHER_WAY" = some (.ref a_EITHER_WAY)
  v_EITHER_WAY : ∀ H, SqT K H a_EITHER_WAY [.str "add", .str "and", .str "or", .str "xor", .str "same"]
  t_MOST_DIGITS : Tok
  c_MOST_DIGITS : mg "MOST_DIGITS" = some (.int 40 t_MOST_DIGITS)
  t_MOST_TOKENS : Tok
  c_MOST_TOKENS : mg "MOST_TOKENS" = some (.int 400 t_MOST_TOKENS)
  n_len : mg "len" = none
  n_list : mg "list" = none
  n_tuple : mg "tuple" = none
  n_int : mg "int" = none
  n_str : mg "str" = none
  n_min : mg "min" = none
  n_range : mg "range" = none
  n_isinstance : mg "isinstance" = none
  n_sorted : mg "sorted" = none
  n_bool : mg "bool" = none
  n_iter : mg "iter" = none
  n_enumerate : mg "enumerate" = none
  C_TooMany : Addr
  g_TooMany : mg "TooMany" = some (.ref C_TooMany)
  o_TooMany : OexE K C_TooMany
  ii_TooMany : PySem.W.findIn K (.ref C_TooMany) "__init__" = some (some (.ref f_TooMany_init))
  it_TooMany : PySem.W.typeIn K (.ref f_TooMany_init) = some (.type "function")
  xf_TooMany : XfC K C_TooMany
  nf_TooMany : PySem.W.findIn K (.ref C_TooMany) "name" = some none
  te_TooMany : PySem.W.exmOne K (.ref C_TooMany) (.ref C_TooMany) = some true
  C_BadNumber : Addr
  g_BadNumber : mg "BadNumber" = some (.ref C_BadNumber)
  o_BadNumber : OexE K C_BadNumber
  ii_BadNumber : PySem.W.findIn K (.ref C_BadNumber) "__init__" = some (some (.ref f_BadNumber_init))
  it_BadNumber : PySem.W.typeIn K (.ref f_BadNumber_init) = some (.type "function")
  xf_BadNumber : XfC K C_BadNumber
  nf_BadNumber : PySem.W.findIn K (.ref C_BadNumber) "name" = some none
  te_BadNumber : PySem.W.exmOne K (.ref C_BadNumber) (.ref C_BadNumber) = some true
  C_BadWords : Addr
  g_BadWords : mg "BadWords" = some (.ref C_BadWords)
  o_BadWords : OexE K C_BadWords
  ii_BadWords : PySem.W.findIn K (.ref C_BadWords) "__init__" = some (some (.ref f_BadWords_init))
  it_BadWords : PySem.W.typeIn K (.ref f_BadWords_init) = some (.type "function")
  xf_BadWords : XfC K C_BadWords
  nf_BadWords : PySem.W.findIn K (.ref C_BadWords) "at" = some none
  te_BadWords : PySem.W.exmOne K (.ref C_BadWords) (.ref C_BadWords) = some true
  C_BadOp : Addr
  g_BadOp : mg "BadOp" = some (.ref C_BadOp)
  o_BadOp : OexE K C_BadOp
  ii_BadOp : PySem.W.findIn K (.ref C_BadOp) "__init__" = some (some (.ref f_BadOp_init))
  it_BadOp : PySem.W.typeIn K (.ref f_BadOp_init) = some (.type "function")
  xf_BadOp : XfC K C_BadOp
  nf_BadOp : PySem.W.findIn K (.ref C_BadOp) "op" = some none
  te_BadOp : PySem.W.exmOne K (.ref C_BadOp) (.ref C_BadOp) = some true
  C_BadPart : Addr
  g_BadPart : mg "BadPart" = some (.ref C_BadPart)
  k_BadPart : PySem.W.keepIn K (.ref C_BadPart) = true
  x_BadPart : PySem.W.excIn K C_BadPart [.type "Exception", .type "BaseException", .type "object"] "Exception.__new__" = true
  sb_BadPart : PySem.W.subIn K (.ref C_BadPart) (.type "BaseException") = some true
  ty_BadPart : PySem.W.typeIn K (.ref C_BadPart) = some (.type "type")
  te_BadPart : PySem.W.exmOne K (.ref C_BadPart) (.ref C_BadPart) = some true
  tf_BadPart_BadOp : PySem.W.exmOne K (.ref C_BadPart) (.ref C_BadOp) = some false
  tf_BadNumber_BadOp : PySem.W.exmOne K (.ref C_BadNumber) (.ref C_BadOp) = some false
  tf_BadNumber_BadPart : PySem.W.exmOne K (.ref C_BadNumber) (.ref C_BadPart) = some false
end My

/-! M -/
/-! terms: parts, pools, their words; plain Lean -/
namespace My
open PySem L2
theorem gN {i : Nat} {v : V} {σ : L2.St} {H : Hp} {Q : L2.St → Hp → Prop} (h : Q (σ.set i (some v)) H) : gName i v σ H Q := h
theorem seqT {t u : TS} {D : Ends} {σ : L2.St} {H : Hp} (h : t { D with nx := u D } σ H) : tSeq t u D σ H := h
theorem iteN {c A B : Prop} [Decidable c] (h : ¬ c) (b : B) : if c then A else B := by rw [if_neg h]; exact b
theorem iteP {c A B : Prop} [Decidable c] (h : c) (a : A) : if c then A else B := by rw [if_pos h]; exact a
theorem dT {p : Prop} [Decidable p] (h : p) : decide p = true := decide_eq_true h
theorem dF {p : Prop} [Decidable p] (h : ¬ p) : ¬ decide p = true := fun z => h (of_decide_eq_true z)
theorem ite2d {p A B : Prop} [Decidable p] (h1 : p → A) (h2 : ¬ p → B) : if decide p = true then A else B := by
  by_cases h : p
  · rw [if_pos (decide_eq_true h)]; exact h1 h
  · rw [if_neg (dF h)]; exact h2 h
theorem nT {b : Bool} (h : ¬ b = true) : (!b) = true := by cases b <;> simp_all
theorem nF {b : Bool} (h : b = true) : ¬ (!b) = true := by cases b <;> simp_all
theorem cpow1 {n : Int} (h0 : 0 ≤ n) (h : n ≤ 1000) : CPow 1 n := ⟨h0, by omega, by decide⟩
theorem cpow10 : CPow 10 18 := ⟨by decide, by decide, by decide⟩
theorem cdiv {i j : Int} (h0 : 0 < j) (h : j < 1073741824) : CDiv i j := ⟨h0, h⟩
theorem two_pos (n : Int) : (0 : Int) < 1 * 2 ^ n.toNat := by rw [Int.one_mul]; exact Int.pow_pos (by decide)
inductive Op | add | sub | and | or | xor | less | same deriving DecidableEq
def Op.s : Op → Str | .add => "add" | .sub => "sub" | .and => "and" | .or => "or" | .xor => "xor" | .less => "less" | .same => "same"
def opI (w : Nat) : Op → Int → Int → Int
  | .add, x, y => (x + y) % 2 ^ w
  | .sub, x, y => (x - y) % 2 ^ w
  | .and, x, y => Builtin.bitAnd x y
  | .or, x, y => Builtin.bitOr x y
  | .xor, x, y => Builtin.bitXor x y
  | .less, x, y => if x < y then 1 else 0
  | .same, x, y => if x = y then 1 else 0
theorem mask_eq (x : Int) (n : Nat) : Builtin.bitAnd x (1 * 2 ^ (n : Int).toNat - 1) = x % 2 ^ n := by
  rw [Int.one_mul, Int.toNat_natCast]; exact PySem.W.kbt_mask x n
inductive Part | num (v : Int) | get (i : Int) | op (o : Op) (a b : Nat) deriving DecidableEq
def Part.vals : Part → List V
  | .num v => [.str "num", .int v] | .get i => [.str "get", .int i] | .op o a b => [.str o.s, .int a, .int b]
def Part.key : Part → List Key
  | .num v => [.inr "num", .inl v] | .get i => [.inr "get", .inl i] | .op o a b => [.inr o.s, .inl a, .inl b]
theorem key_vals (p : Part) : p.key.map kV = p.vals := by cases p <;> rfl
theorem op_inj {o o' : Op} (h : o.s = o'.s) : o = o' := by
  cases o <;> cases o' <;> first | rfl | (exact absurd h (by decide +kernel))
theorem num_get : ¬ (("num" : Str) = "get") := by decide +kernel
theorem key_inj {p q : Part} (h : p.key = q.key) : p = q := by
  cases p <;> cases q <;> simp [Part.key] at h
  · exact congrArg _ h
  · exact absurd h.1 num_get
  · exact absurd h.1.symm num_get
  · exact congrArg _ h
  · obtain ⟨h1, h2, h3⟩ := h
    have h2 := Int.ofNat.inj h2
    have h3 := Int.ofNat.inj h3
    rw [op_inj h1, h2, h3]
theorem vals_inj {p q : Part} (h : p.vals = q.vals) : p = q := by
  cases p <;> cases q <;> simp [Part.vals] at h
  · exact congrArg _ h
  · exact absurd h.1 num_get
  · exact absurd h.1.symm num_get
  · exact congrArg _ h
  · obtain ⟨h1, h2, h3⟩ := h
    have h2 := Int.ofNat.inj h2
    have h3 := Int.ofNat.inj h3
    rw [op_inj h1, h2, h3]
/-- made or found -/
def mk (ps : List Part) (p : Part) : Nat × List Part := if p ∈ ps then (ps.idxOf p, ps) else (ps.length, ps ++ [p])
def numd (ps : List Part) : List (List Key × V) := ps.zipIdx.map fun x => (x.1.key, .int (x.2 : Nat))
theorem numd_snoc (ps : List Part) (p : Part) : numd (ps ++ [p]) = numd ps ++ [(p.key, .int (ps.length : Nat))] := by
  unfold numd
  rw [List.zipIdx_append, List.map_append]
  simp
theorem numd_len (ps : List Part) : (numd ps).length = ps.length := by unfold numd; simp
theorem valV_numd (p : Part) : ∀ ps : List Part, valV (numd ps) p.key = if p ∈ ps then some (.int (ps.idxOf p : Nat)) else none := by
  have gen : ∀ (ps : List Part) (k : Nat), valV ((ps.zipIdx k).map fun x => (x.1.key, V.int (x.2 : Nat))) p.key = if p ∈ ps then some (.int ((k + ps.idxOf p : Nat) : Int)) else none := by
    intro ps
    induction ps with
    | nil => intro k; rfl
    | cons q r ih =>
      intro k
      rw [List.zipIdx_cons, List.map_cons]
      by_cases e : q = p
      · subst e
        rw [valV_pos rfl, if_pos List.mem_cons_self, List.idxOf_cons_self]
        rfl
      · rw [valV_neg (fun z => e (key_inj z)), ih (k + 1)]
        by_cases m : p ∈ r
        · have ee : (q == p) = false := by simpa using e
          rw [if_pos m, if_pos (List.mem_cons_of_mem _ m), List.idxOf_cons, ee]
          simp only [Option.some.injEq, V.int.injEq, cond_false]
          omega
        · rw [if_neg m, if_neg (fun z => m ((List.mem_cons.mp z).resolve_left (fun y => e y.symm)))]
  intro ps
  have := gen ps 0
  simp only [Nat.zero_add] at this
  exact this
/-! ### what is shortened -/
inductive Sh | one | other | zero | unit | no deriving DecidableEq
def Sh.v : Sh → V | .one => .str "one" | .other => .str "other" | .zero => .str "zero" | .unit => .str "unit" | .no => .non
def shTwice : Op → Sh | .sub => .zero | .xor => .zero | .less => .zero | .or => .one | .same => .unit | _ => .no
def shAnd (fa fb : Option Int) (eq : Bool) (most : Int) : Sh :=
  if fa = some 0 ∨ fb = some 0 then .zero else if fa = some most then .other else if fb = some most ∨ eq = true then .one else .no
def shortR (o : Op) (fa fb : Option Int) (eq : Bool) (most : Int) : Sh :=
  if (o = .add ∨ o = .or ∨ o = .xor) ∧ fa = some 0 then .other
  else if (o = .add ∨ o = .or ∨ o = .xor) ∧ fb = some 0 then .one
  else if o = .and then shAnd fa fb eq most
  else if fb = some 0 ∧ o = .sub then .one
  else if fb = some 0 ∧ o = .less then .zero
  else if eq = true then shTwice o
  else .no
def optV : Option Int → V | some x => .int x | none => .non
theorem dec_opt (fa : Option Int) (z : Int) : decide (optV fa = .int z) = decide (fa = some z) := by
  cases fa with
  | none => simp [optV]
  | some x => simp [optV]
theorem scal_opt (fa : Option Int) (z : Int) : scal (optV fa) (.int z) = true := by cases fa <;> rfl
def either (o : Op) : Bool := match o with | .sub => false | .less => false | _ => true
def Part.word : Part → Option Int | .num v => some v | _ => none
def wordOf (ps : List Part) (a : Nat) : Option Int := (ps[a]?).bind Part.word
theorem wordOf_at {ps : List Part} {i : Nat} {p : Part} (h : ps[i]? = some p) : wordOf ps i = p.word := by unfold wordOf; rw [h]; rfl
def fin (ps : List Part) (o : Op) (a b : Nat) : Sh → Nat × List Part
  | .one => (a, ps) | .other => (b, ps) | .zero => mk ps (.num 0) | .unit => mk ps (.num 1) | .no => mk ps (.op o a b)
def mApply (w : Nat) (ps : List Part) (o : Op) (a b : Nat) : Nat × List Part :=
  match wordOf ps a, wordOf ps b with
  | some x, some y => mk ps (.num (opI w o x y))
  | fa, fb => if either o = true ∧ b < a then fin ps o b a (shortR o fb fa (decide (b = a)) (2 ^ w - 1)) else fin ps o a b (shortR o fa fb (decide (a = b)) (2 ^ w - 1))
/-! ### in the heap -/
def TupsAt (H : Hp) (ts : List Addr) (ps : List Part) : Prop := ts.length = ps.length ∧ ∀ (i : Nat) (p : Part), ps[i]? = some p → ∃ t : Addr, ts[i]? = some t ∧ H t = some (.tup p.vals)
/-- a list of parts at l -/
def LAt (H : Hp) (l : Addr) (ps : List Part) : Prop := ∃ ts, H l = some (.lst (ts.map V.ref)) ∧ TupsAt H ts ps
theorem LAt.item {H : Hp} {l : Addr} {ps : List Part} (h : LAt H l ps) : ∃ xs : List V, H l = some (.lst xs) ∧ xs.length = ps.length ∧ ∀ (i : Nat) (p : Part), ps[i]? = some p → ∃ t : Addr, xs[i]? = some (V.ref t) ∧ H t = some (.tup p.vals) := by
  obtain ⟨ts, h1, h2, h3⟩ := h
  refine ⟨_, h1, by rw [List.length_map, h2], fun i p e => ?_⟩
  obtain ⟨t, e1, e2⟩ := h3 i p e
  exact ⟨t, by rw [List.getElem?_map, e1]; rfl, e2⟩
/-- what stands stays, but for what S says -/
def Keep (S : Addr → Prop) (H H' : Hp) : Prop := ∀ b o, H b = some o → ¬ S b → H' b = some o
theorem LAt.keep {S : Addr → Prop} {H H' : Hp} {l : Addr} {ps : List Part} (h : LAt H l ps) (k : Keep S H H') (hl : ¬ S l) (ht : ∀ t xs, H t = some (.tup xs) → ¬ S t) : LAt H' l ps := by
  obtain ⟨ts, h1, h2, h3⟩ := h
  refine ⟨ts, k _ _ h1 hl, h2, fun i p e => ?_⟩
  obtain ⟨t, e1, e2⟩ := h3 i p e
  exact ⟨t, e1, k _ _ e2 (ht _ _ e2)⟩
theorem LAt.push {H H' : Hp} {l t : Addr} {ps : List Part} {p : Part} {xs : List V} (h : LAt H l ps) (hx : H l = some (.lst xs)) (k : ∀ b ys, H b = some (.tup ys) → H' b = some (.tup ys)) (e : H' l = some (.lst (xs ++ [.ref t]))) (et : H' t = some (.tup p.vals)) : LAt H' l (ps ++ [p]) := by
  obtain ⟨ts, h1, h2, h3⟩ := h
  rw [h1] at hx
  cases hx
  refine ⟨ts ++ [t], by rw [e, List.map_append]; rfl, by rw [List.length_append, List.length_append, h2]; rfl, fun i q hq => ?_⟩
  by_cases hi : i < ps.length
  · rw [List.getElem?_append_left hi] at hq
    obtain ⟨u, e1, e2⟩ := h3 i q hq
    refine ⟨u, by rw [List.getElem?_append_left (by omega)]; exact e1, k _ _ e2⟩
  · have hl := (List.getElem?_eq_some_iff.mp hq).1
    rw [List.length_append, List.length_singleton] at hl
    have ei : i = ps.length := by omega
    subst ei
    rw [List.getElem?_append_right (Nat.le_refl _), Nat.sub_self] at hq
    cases hq
    exact ⟨t, by rw [← h2, List.getElem?_append_right (Nat.le_refl _), Nat.sub_self]; rfl, et⟩
def poolF (w : Nat) (l d : Addr) : List (Str × V) := [("width", .int w), ("_most", .int (2 ^ w - 1)), ("_parts", .ref l), ("_numbers", .ref d)]
structure PoolAt (C : Addr) (H : Hp) (a l d : Addr) (w : Nat) (ps : List Part) : Prop where
  ob : ∃ dx, H a = some (.ins C dx (poolF w l d))
  lst : LAt H l ps
  dic : H d = some (.dT (numd ps))
theorem ld_ne {H : Hp} {l d : Addr} {xs : List V} {kvs : List (List Key × V)} (h1 : H l = some (.lst xs)) (h2 : H d = some (.dT kvs)) : l ≠ d := ne_of h1 h2 (by intro z; cases z)
theorem PoolAt.keep {S : Addr → Prop} {C : Addr} {H H' : Hp} {a l d : Addr} {w : Nat} {ps : List Part} (h : PoolAt C H a l d w ps) (k : Keep S H H') (ha : ¬ S a) (hl : ¬ S l) (hd : ¬ S d) (ht : ∀ t xs, H t = some (.tup xs) → ¬ S t) : PoolAt C H' a l d w ps :=
  ⟨by obtain ⟨dx, e⟩ := h.ob; exact ⟨dx, k _ _ e ha⟩, h.lst.keep k hl ht, k _ _ h.dic hd⟩
theorem lk {f g : Str} {y : V} {fs : List (Str × V)} : ((f, y) :: fs).lookup g = if g = f then some y else fs.lookup g := by
  by_cases h : g = f
  · subst h; simp [List.lookup]
  · have e : (g == f) = false := by simpa using h
    rw [if_neg h]; simp [List.lookup, e]
theorem look_width (w : Nat) (l d : Addr) : (poolF w l d).lookup ("width" : Str) = some (V.int w) := by unfold poolF; rw [lk, if_pos rfl]
theorem look_most (w : Nat) (l d : Addr) : (poolF w l d).lookup ("_most" : Str) = some (V.int (2 ^ w - 1)) := by unfold poolF; rw [lk, if_neg (by decide +kernel), lk, if_pos rfl]
theorem look_parts (w : Nat) (l d : Addr) : (poolF w l d).lookup ("_parts" : Str) = some (V.ref l) := by unfold poolF; rw [lk, if_neg (by decide +kernel), lk, if_neg (by decide +kernel), lk, if_pos rfl]
theorem look_numbers (w : Nat) (l d : Addr) : (poolF w l d).lookup ("_numbers" : Str) = some (V.ref d) := by unfold poolF; rw [lk, if_neg (by decide +kernel), lk, if_neg (by decide +kernel), lk, if_neg (by decide +kernel), lk, if_pos rfl]
theorem look_no (w : Nat) (l d : Addr) {m : Str} (h1 : ¬ m = "width") (h2 : ¬ m = "_most") (h3 : ¬ m = "_parts") (h4 : ¬ m = "_numbers") : (poolF w l d).lookup m = none := by
  unfold poolF; rw [lk, if_neg h1, lk, if_neg h2, lk, if_neg h3, lk, if_neg h4]; rfl
theorem poolF_made (w : Nat) (l d : Addr) : putF "_numbers" (.ref d) (putF "_parts" (.ref l) (putF "_most" (.int (2 ^ w - 1)) (putF "width" (.int w) []))) = poolF w l d := by
  have e1 : ¬ (("width" : Str) = "_most") := by decide +kernel
  have e2 : ¬ (("width" : Str) = "_parts") := by decide +kernel
  have e3 : ¬ (("_most" : Str) = "_parts") := by decide +kernel
  have e4 : ¬ (("width" : Str) = "_numbers") := by decide +kernel
  have e5 : ¬ (("_most" : Str) = "_numbers") := by decide +kernel
  have e6 : ¬ (("_parts" : Str) = "_numbers") := by decide +kernel
  simp only [putF, if_neg e1, if_neg e2, if_neg e3, if_neg e4, if_neg e5, if_neg e6]
  rfl
end My

/-! B -/
namespace My
open PySem L2
local macro_rules | `(tactic| walk_at "side") => `(tactic| first | with_reducible rfl | assumption | rfl | decide | omega | exact cpow1 (by omega) (by omega) | exact cdiv (by omega) (by omega) | exact two_pos _ | exact SqL.of (by assumption) | exact SqT.of (by assumption) | exact TyX.base (TyOf.int _) | exact TyX.base (TyOf.bl _) | exact TyX.base TyOf.non | exact scal_opt _ _ | exact k_ii | exact k_bi | exact k_ni | exact k_ib | exact k_bb | exact TyX.base (TyOf.lst (by assumption)) | exact k_ll | exact k_lt)
local macro_rules | `(tactic| walk_at "p") => `(tactic| repeat (first | refine And.intro (by walk_at "side") ?_ | apply Exists.intro | refine iteN (by assumption) ?_ | refine iteP (by assumption) ?_ | refine iteN (by decide) ?_ | refine iteP (by decide) ?_))

/-- a way by a Bool -/
theorem iteB {c : Bool} {A B : Prop} (h1 : c = true → A) (h2 : c = false → B) : if c = true then A else B := by
  cases c
  · exact iteN (by decide) (h2 rfl)
  · exact iteP rfl (h1 rfl)
section
variable {P : Program} {w : World} {K : PySem.W.Frag} {mg : Str → Option Value} {base : Heap}
def sp_op_word (_ : Txt K mg) : Sp := fun vs H Q _ => ∃ (o : Op) (x y : Int) (n : Nat), vs = [.str o.s, .int x, .int y, .int n] ∧ n ≤ 12 ∧ Q (.int (opI n o x y)) H
theorem sp_op_word_len {T : Txt K mg} {vs H Q E} (h : sp_op_word T vs H Q E) : vs.length = 4 := by obtain ⟨_, _, _, _, rfl, _⟩ := h; rfl
theorem if_lt {Q : V → Hp → Prop} {H : Hp} {x y : Int} (k : Q (V.int (if x < y then 1 else 0)) H) : if decide (x < y) = true then Q (V.int 1) H else Q (V.int 0) H := by
  by_cases c : x < y
  · rw [if_pos c] at k; rw [if_pos (decide_eq_true c)]; exact k
  · rw [if_neg c] at k; rw [if_neg (fun z => c (of_decide_eq_true z))]; exact k
theorem if_eq {Q : V → Hp → Prop} {H : Hp} {x y : Int} (k : Q (V.int (if x = y then 1 else 0)) H) : if decide (V.int x = V.int y) = true then Q (V.int 1) H else Q (V.int 0) H := by
  by_cases c : x = y
  · rw [if_pos c] at k; rw [if_pos (decide_eq_true (congrArg V.int c))]; exact k
  · rw [if_neg c] at k; rw [if_neg (fun z => c (by have := of_decide_eq_true z; injection this))]; exact k
theorem ok_op_word (T : Txt K mg) : FnOk P w K mg base CX0 1 T.f_op_word T.fd_op_word ["name", "one", "other", "width"] (sp_op_word T) := by
  skip
  refine T.F_op_word.ok sc_op_word (fun vs H Q E h => sp_op_word_len h) (fun cdv A outer s H vs Q E hr h => ?_)
  obtain ⟨o, x, y, n, rfl, hn, k⟩ := h
  refine ⟨_, (pss_cons (ps_if (pt_cmpR op_eq (pv 0) pe_str (nomark _))
        (pss_one (ps_ret (pe_op op_and (pe_op op_add (pv 1) (pv 2)) (pe_op op_sub (pe_op op_shl pe_int (pv 3)) pe_int))))
        pss_nil)
       (pss_cons (ps_if (pt_cmpR op_eq (pv 0) pe_str (nomark _))
        (pss_one (ps_ret (pe_op op_and (pe_op op_sub (pv 1) (pv 2)) (pe_op op_sub (pe_op op_shl pe_int (pv 3)) pe_int))))
        pss_nil)
       (pss_cons (ps_if (pt_cmpR op_eq (pv 0) pe_str (nomark _))
        (pss_one (ps_ret (pe_op op_and (pv 1) (pv 2))))
        pss_nil)
       (pss_cons (ps_if (pt_cmpR op_eq (pv 0) pe_str (nomark _))
        (pss_one (ps_ret (pe_op op_or (pv 1) (pv 2))))
        pss_nil)
       (pss_cons (ps_if (pt_cmpR op_eq (pv 0) pe_str (nomark _))
        (pss_one (ps_ret (pe_op op_xor (pv 1) (pv 2))))
        pss_nil)
       (pss_cons (ps_if (pt_cmpR op_eq (pv 0) pe_str (nomark _))
        (pss_one (ps_ret (pe_ifExp (pt_cmpR op_lt (pv 1) (pv 2) (nomark _)) pe_int pe_int)))
        pss_nil)
       (pss_one (ps_ret (pe_ifExp (pt_cmpR op_eq (pv 1) (pv 2) (nomark _)) pe_int pe_int))))))))), ?_⟩
  cases o
  · walk_at "p"
    show Q (V.int (Builtin.bitAnd (x + y) _)) H
    rw [mask_eq]; exact k
  · walk_at "p"
    show Q (V.int (Builtin.bitAnd (x - y) _)) H
    rw [mask_eq]; exact k
  · walk_at "p"
    exact k
  · walk_at "p"
    exact k
  · walk_at "p"
    exact k
  · walk_at "p"
    exact if_lt k
  · walk_at "p"
    exact if_eq k
def sp_law_op (_ : Txt K mg) : Sp := fun vs H Q _ => ∃ (o : Op) (x y : Int) (n : Nat), vs = [.str o.s, .int x, .int y, .int n] ∧ n ≤ 12 ∧ Q (.int (opI n o x y)) H
theorem sp_law_op_len {T : Txt K mg} {vs H Q E} (h : sp_law_op T vs H Q E) : vs.length = 4 := by obtain ⟨_, _, _, _, rfl, _⟩ := h; rfl
theorem ok_law_op (T : Txt K mg) : FnOk P w K mg base CX0 1 T.f_law_op T.fd_law_op ["_law_name", "_law_one", "_law_other", "_law_width"] (sp_law_op T) := by
  skip
  refine T.F_law_op.ok sc_law_op (fun vs H Q E h => sp_law_op_len h) (fun cdv A outer s H vs Q E hr h => ?_)
  obtain ⟨o, x, y, n, rfl, hn, k⟩ := h
  refine ⟨_, (pss_cons (ps_if (pt_cmpR op_eq (pv 0) pe_str (nomark _))
        (pss_one (ps_ret (pe_op op_mod (pe_callTy call_intI (by rfl) T.n_int (by decide +kernel) (pa_cons (pe_op op_add (pv 1) (pv 2)) pa_nil)) (pe_op op_shl pe_int (pv 3)))))
        pss_nil)
       (pss_cons (ps_if (pt_cmpR op_eq (pv 0) pe_str (nomark _))
        (pss_one (ps_ret (pe_op op_mod (pe_callTy call_intI (by rfl) T.n_int (by decide +kernel) (pa_cons (pe_op op_sub (pv 1) (pv 2)) pa_nil)) (pe_op op_shl pe_int (pv 3)))))
        pss_nil)
       (pss_cons (ps_if (pt_cmpR op_eq (pv 0) pe_str (nomark _))
        (pss_one (ps_ret (pe_op op_and (pv 1) (pv 2))))
        pss_nil)
       (pss_cons (ps_if (pt_cmpR op_eq (pv 0) pe_str (nomark _))
        (pss_one (ps_ret (pe_op op_or (pv 1) (pv 2))))
        pss_nil)
       (pss_cons (ps_if (pt_cmpR op_eq (pv 0) pe_str (nomark _))
        (pss_one (ps_ret (pe_op op_xor (pv 1) (pv 2))))
        pss_nil)
       (pss_cons (ps_if (pt_cmpR op_eq (pv 0) pe_str (nomark _))
        (pss_one (ps_ret (pe_ifExp (pt_cmpR op_lt (pv 1) (pv 2) (nomark _)) pe_int pe_int)))
        pss_nil)
       (pss_one (ps_ret (pe_ifExp (pt_cmpR op_eq (pv 1) (pv 2) (nomark _)) pe_int pe_int))))))))), ?_⟩
  cases o
  · walk_at "p"
    have k' : Q (V.int ((x + y) % (1 * 2 ^ (n : Int).toNat))) H := by rw [Int.one_mul, Int.toNat_natCast]; exact k
    exact k'
  · walk_at "p"
    have k' : Q (V.int ((x - y) % (1 * 2 ^ (n : Int).toNat))) H := by rw [Int.one_mul, Int.toNat_natCast]; exact k
    exact k'
  · walk_at "p"
    exact k
  · walk_at "p"
    exact k
  · walk_at "p"
    exact k
  · walk_at "p"
    exact if_lt k
  · walk_at "p"
    exact if_eq k
/-- is_int of what is no text, no object -/
def isI : V → Bool | .int _ => true | _ => false
def plainV : V → Bool | .int _ => true | .bl _ => true | .non => true | _ => false
def plain4 : V → Bool | .int _ => true | .bl _ => true | .non => true | .str _ => true | _ => false
def tyn : V → String | .int _ => "int" | .bl _ => "bool" | .non => "NoneType" | .str _ => "str" | _ => ""
theorem ty4 {K : PySem.W.Frag} {H : Hp} {x : V} (h : plain4 x = true) : TyX K H x (.type (tyn x)) := by
  cases x <;> (try cases h)
  · exact TyX.base TyOf.non
  · exact TyX.base (TyOf.bl _)
  · exact TyX.base (TyOf.int _)
  · exact TyX.base (TyOf.str _)
theorem kq_int_int : kitB "int" "int" = some true := by decide +kernel
theorem kq_bl_int : kitB "bool" "int" = some true := by decide +kernel
theorem kq_non_int : kitB "NoneType" "int" = some false := by decide +kernel
theorem kq_str_int : kitB "str" "int" = some false := by decide +kernel
theorem kq_int_bool : kitB "int" "bool" = some false := by decide +kernel
theorem kq_bl_bool : kitB "bool" "bool" = some true := by decide +kernel
theorem kq_non_bool : kitB "NoneType" "bool" = some false := by decide +kernel
theorem kq_str_bool : kitB "str" "bool" = some false := by decide +kernel
theorem kq_int_list : kitB "int" "list" = some false := by decide +kernel
theorem kq_bl_list : kitB "bool" "list" = some false := by decide +kernel
theorem kq_non_list : kitB "NoneType" "list" = some false := by decide +kernel
theorem kq_str_list : kitB "str" "list" = some false := by decide +kernel
theorem kq_int_tuple : kitB "int" "tuple" = some false := by decide +kernel
theorem kq_bl_tuple : kitB "bool" "tuple" = some false := by decide +kernel
theorem kq_non_tuple : kitB "NoneType" "tuple" = some false := by decide +kernel
theorem kq_str_tuple : kitB "str" "tuple" = some false := by decide +kernel
theorem kq_int_str : kitB "int" "str" = some false := by decide +kernel
theorem kq_bl_str : kitB "bool" "str" = some false := by decide +kernel
theorem kq_non_str : kitB "NoneType" "str" = some false := by decide +kernel
theorem kq_str_str : kitB "str" "str" = some true := by decide +kernel
def v4_i (x : V) : Bool := match x with | .int _ => true | .bl _ => true | _ => false
theorem k_4i {x : V} (h : plain4 x = true) : kitB (tyn x) "int" = some (v4_i x) := by
  cases x with
  | int i => exact kq_int_int
  | bl b => exact kq_bl_int
  | non => exact kq_non_int
  | str z => exact kq_str_int
  | _ => cases h
def v4_b (x : V) : Bool := match x with | .bl _ => true | _ => false
theorem k_4b {x : V} (h : plain4 x = true) : kitB (tyn x) "bool" = some (v4_b x) := by
  cases x with
  | int i => exact kq_int_bool
  | bl b => exact kq_bl_bool
  | non => exact kq_non_bool
  | str z => exact kq_str_bool
  | _ => cases h
def v4_s (x : V) : Bool := match x with | .str _ => true | _ => false
theorem k_4s {x : V} (h : plain4 x = true) : kitB (tyn x) "str" = some (v4_s x) := by
  cases x with
  | int i => exact kq_int_str
  | bl b => exact kq_bl_str
  | non => exact kq_non_str
  | str z => exact kq_str_str
  | _ => cases h

theorem p4 {x : V} (h : plainV x = true) : plain4 x = true := by cases x <;> first | rfl | cases h
def sp_is_int (_ : Txt K mg) : Sp := fun vs H Q _ => ∃ x, vs = [x] ∧ plain4 x = true ∧ Q (.bl (isI x)) H
theorem sp_is_int_len {T : Txt K mg} {vs H Q E} (h : sp_is_int T vs H Q E) : vs.length = 1 := by obtain ⟨_, rfl, _⟩ := h; rfl
theorem ok_is_int (T : Txt K mg) : FnOk P w K mg base CX0 1 T.f_is_int T.fd_is_int ["value"] (sp_is_int T) := by
  skip
  refine T.F_is_int.ok sc_is_int (fun vs H Q E h => sp_is_int_len h) (fun cdv A outer s H vs Q E hr h => ?_)
  obtain ⟨x, rfl, hp, k⟩ := h
  refine ⟨_, (pss_one (ps_ret (pe_and (pe_callB call_isTy (by rfl) T.n_isinstance (by decide +kernel) (pa_cons (pv 0) (pa_cons (pe_bltn (v := .ty "int") (by rfl) T.n_int (by decide +kernel) rfl) pa_nil))) (pe_one (pe_not (pe_callB call_isTy (by rfl) T.n_isinstance (by decide +kernel) (pa_cons (pv 0) (pa_cons (pe_bltn (v := .ty "bool") (by rfl) T.n_bool (by decide +kernel) rfl) pa_nil)))))))), ?_⟩
  refine ⟨_, rfl, _, _, "int", rfl, ty4 hp, _, k_4i hp, ?_⟩
  cases x with
  | int i => exact ⟨_, rfl, iteP rfl ⟨_, rfl, _, _, _, rfl, ty4 (by rfl), _, k_4b (by rfl), _, rfl, k⟩⟩
  | bl b => exact ⟨_, rfl, iteP rfl ⟨_, rfl, _, _, _, rfl, ty4 (by rfl), _, k_4b (by rfl), _, rfl, k⟩⟩
  | non => exact ⟨_, rfl, iteN (fun z => by cases z) k⟩
  | str z => exact ⟨_, rfl, iteN (fun z => by cases z) k⟩
  | _ => cases hp
def sp_law_is_int (_ : Txt K mg) : Sp := fun vs H Q _ => ∃ x, vs = [x] ∧ plainV x = true ∧ Q (.bl (isI x)) H
theorem sp_law_is_int_len {T : Txt K mg} {vs H Q E} (h : sp_law_is_int T vs H Q E) : vs.length = 1 := by obtain ⟨_, rfl, _⟩ := h; rfl
theorem ok_law_is_int (T : Txt K mg) : FnOk P w K mg base CX0 1 T.f_law_is_int T.fd_law_is_int ["_law_thing"] (sp_law_is_int T) := by
  skip
  refine T.F_law_is_int.ok sc_law_is_int (fun vs H Q E h => sp_law_is_int_len h) (fun cdv A outer s H vs Q E hr h => ?_)
  obtain ⟨x, rfl, hp, k⟩ := h
  refine ⟨_, (pss_one (ps_ret (pe_and (pe_callB call_isTy (by rfl) T.n_isinstance (by decide +kernel) (pa_cons (pv 0) (pa_cons (pe_bltn (v := .ty "int") (by rfl) T.n_int (by decide +kernel) rfl) pa_nil))) (pe_one (pe_not (pe_callB call_isTy (by rfl) T.n_isinstance (by decide +kernel) (pa_cons (pv 0) (pa_cons (pe_bltn (v := .ty "bool") (by rfl) T.n_bool (by decide +kernel) rfl) pa_nil)))))))), ?_⟩
  cases x <;> (try cases hp)
  · walk_at "p"
    exact k
  · walk_at "p"
    exact k
  · walk_at "p"
    exact k
theorem same_new {H : Hp} {p : Addr} {o : HO} (hp : H p = none) : Same H (upd H p o) := fun b u e => by rw [upd_ne (ne_of_none e hp)]; exact e
/-- is_row -/
def sp_is_row (_ : Txt K mg) : Sp := fun vs H Q _ => (∃ a xs, vs = [.ref a] ∧ Row H a xs ∧ ∀ H', Same H H' → Q (.bl true) H') ∨ ∃ x, vs = [x] ∧ plainV x = true ∧ ∀ H', Same H H' → Q (.bl false) H'
theorem sp_is_row_len {T : Txt K mg} {vs H Q E} (h : sp_is_row T vs H Q E) : vs.length = 1 := by rcases h with ⟨_, _, rfl, _⟩ | ⟨_, rfl, _⟩ <;> rfl
theorem ok_is_row (T : Txt K mg) : FnOk P w K mg base CX0 1 T.f_is_row T.fd_is_row ["value"] (sp_is_row T) := by
  skip
  refine T.F_is_row.ok sc_is_row (fun vs H Q E h => sp_is_row_len h) (fun cdv A outer s H vs Q E hr h => ?_)
  refine ⟨_, (pss_one (ps_ret (pe_callB call_isTy2 (by rfl) T.n_isinstance (by decide +kernel) (pa_cons (pv 0) (pa_cons (pe_tup (pa_cons (pe_bltn (v := .ty "list") (by rfl) T.n_list (by decide +kernel) rfl) (pa_cons (pe_bltn (v := .ty "tuple") (by rfl) T.n_tuple (by decide +kernel) rfl) pa_nil))) pa_nil))))), ?_⟩
  rcases h with ⟨a, xs, rfl, ha | ha, k⟩ | ⟨x, rfl, hp, k⟩
  · walk_at "p"
    intro p hp
    have s := same_new (o := .tup [.ty "list", .ty "tuple"]) hp
    exact ⟨_, _, _, _, _, rfl, upd_same, .base (.lst (s _ _ ha)), _, _, k_ll, k_lt, k _ s⟩
  · walk_at "p"
    intro p hp
    have s := same_new (o := .tup [.ty "list", .ty "tuple"]) hp
    exact ⟨_, _, _, _, _, rfl, upd_same, .base (.tup (s _ _ ha)), _, _, k_tl, k_tt, k _ s⟩
  · walk_at "p"
    intro p hp
    have s := same_new (o := .tup [.ty "list", .ty "tuple"]) hp
    cases x <;> (try cases hp)
    · exact ⟨_, _, _, _, _, rfl, upd_same, .base .non, _, _, k_nl, k_nt, k _ s⟩
    · exact ⟨_, _, _, _, _, rfl, upd_same, .base (.bl _), _, _, k_bl', k_bt, k _ s⟩
    · exact ⟨_, _, _, _, _, rfl, upd_same, .base (.int _), _, _, k_il, k_it, k _ s⟩
def sp_BadNumber_init (T : Txt K mg) : Sp := sp_exinit T.C_BadNumber "name"
theorem sp_BadNumber_init_len {T : Txt K mg} {vs H Q E} (h : sp_BadNumber_init T vs H Q E) : vs.length = 2 := sp_exinit_len h
theorem ok_BadNumber_init (T : Txt K mg) : FnOk P w K mg base CX0 1 T.f_BadNumber_init T.fd_BadNumber_init ["self", "name"] (sp_BadNumber_init T) := by
  skip
  refine T.F_BadNumber_init.ok sc_BadNumber_init (fun vs H Q E h => sp_BadNumber_init_len h) (fun cdv A outer s H vs Q E hr h => ?_)
  obtain ⟨a, v, rfl, ha, k⟩ := h
  refine ⟨_, (pss_one (ps_ost1 (pv 0) (pv 1))), ?_⟩
  exact ⟨_, rfl, _, rfl, a, T.C_BadNumber, rfl, T.o_BadNumber, T.nf_BadNumber, ha, k⟩
/-- an error with its attribute gets out -/
def BadN (T : Txt K mg) (H : Hp) (E : XK) (v : V) : Prop := ∀ (H' : Hp) (e : Addr), Same H H' → H' e = none → E (.ref T.C_BadNumber) (some e) (upd H' e (.xd [("name", v)]))
def sp_BadWords_init (T : Txt K mg) : Sp := sp_exinit T.C_BadWords "at"
theorem sp_BadWords_init_len {T : Txt K mg} {vs H Q E} (h : sp_BadWords_init T vs H Q E) : vs.length = 2 := sp_exinit_len h
theorem ok_BadWords_init (T : Txt K mg) : FnOk P w K mg base CX0 1 T.f_BadWords_init T.fd_BadWords_init ["self", "at"] (sp_BadWords_init T) := by
  skip
  refine T.F_BadWords_init.ok sc_BadWords_init (fun vs H Q E h => sp_BadWords_init_len h) (fun cdv A outer s H vs Q E hr h => ?_)
  obtain ⟨a, v, rfl, ha, k⟩ := h
  refine ⟨_, (pss_one (ps_ost1 (pv 0) (pv 1))), ?_⟩
  exact ⟨_, rfl, _, rfl, a, T.C_BadWords, rfl, T.o_BadWords, T.nf_BadWords, ha, k⟩
/-- an error with its attribute gets out -/
def BadW (T : Txt K mg) (H : Hp) (E : XK) (v : V) : Prop := ∀ (H' : Hp) (e : Addr), Same H H' → H' e = none → E (.ref T.C_BadWords) (some e) (upd H' e (.xd [("at", v)]))
def sp_BadOp_init (T : Txt K mg) : Sp := sp_exinit T.C_BadOp "op"
theorem sp_BadOp_init_len {T : Txt K mg} {vs H Q E} (h : sp_BadOp_init T vs H Q E) : vs.length = 2 := sp_exinit_len h
theorem ok_BadOp_init (T : Txt K mg) : FnOk P w K mg base CX0 1 T.f_BadOp_init T.fd_BadOp_init ["self", "op"] (sp_BadOp_init T) := by
  skip
  refine T.F_BadOp_init.ok sc_BadOp_init (fun vs H Q E h => sp_BadOp_init_len h) (fun cdv A outer s H vs Q E hr h => ?_)
  obtain ⟨a, v, rfl, ha, k⟩ := h
  refine ⟨_, (pss_one (ps_ost1 (pv 0) (pv 1))), ?_⟩
  exact ⟨_, rfl, _, rfl, a, T.C_BadOp, rfl, T.o_BadOp, T.nf_BadOp, ha, k⟩
/-- an error with its attribute gets out -/
def BadO (T : Txt K mg) (H : Hp) (E : XK) (v : V) : Prop := ∀ (H' : Hp) (e : Addr), Same H H' → H' e = none → E (.ref T.C_BadOp) (some e) (upd H' e (.xd [("op", v)]))
def inB (lo hi : Int) : V → Bool | .int v => decide (lo ≤ v ∧ v ≤ hi) | _ => false
/-- check_int -/
def sp_check_int (T : Txt K mg) : Sp := fun vs H Q E => (∃ (v lo hi : Int) (n : V), vs = [.int v, .int lo, .int hi, n] ∧ lo ≤ v ∧ v ≤ hi ∧ Q (.int v) H) ∨ ∃ (x : V) (lo hi : Int) (n : V), vs = [x, .int lo, .int hi, n] ∧ plain4 x = true ∧ inB lo hi x = false ∧ BadN T H E n
theorem sp_check_int_len {T : Txt K mg} {vs H Q E} (h : sp_check_int T vs H Q E) : vs.length = 4 := by rcases h with ⟨_, _, _, _, rfl, _⟩ | ⟨_, _, _, _, rfl, _⟩ <;> rfl
theorem ok_check_int (T : Txt K mg) : FnOk P w K mg base (L2.CX P w) 3 T.f_check_int T.fd_check_int ["value", "low", "high", "name"] (sp_check_int T) := by
  have G_is_int := ok_is_int (P := P) (w := w) (base := base) T; have G_BadNumber_init := ok_BadNumber_init (P := P) (w := w) (base := base) T
  refine T.F_check_int.okX sc_check_int (fun vs H Q E h => sp_check_int_len h) (fun cdv A outer s H vs Q E hr h => ?_)
  rcases h with ⟨v, lo, hi, n, rfl, h1, h2, k⟩ | ⟨x, lo, hi, n, rfl, hx, hb, bad⟩
  · refine ⟨_, (pss_cons (ps_if (PW.pt (pw_or (pt_not (pt_val (pe_call G_is_int (hr.mono (by decide)) rfl T.g_is_int T.F_is_int.kp T.b_is_int .nil pass0 (pa_cons (pv 0) pa_nil)))) (pw_or1 (pt_cmpR op_lt (pv 0) (pv 1) (nomark _)))))
        (pss_one (ps_raise rfl (takes_of rfl rfl rfl rfl) (pmk_E T.o_BadNumber T.ii_BadNumber T.it_BadNumber G_BadNumber_init hr T.b_BadNumber_init (by rfl) T.g_BadNumber (pa_cons (pv 3) pa_nil))))
        pss_nil)
       (pss_cons (ps_if (PW.pt (pw_and (pt_cmpR op_notN (pv 2) pe_non (nomark _)) (pw_and1 (pt_cmpR op_gt (pv 0) (pv 2) (nomark _)))))
        (pss_one (ps_raise rfl (takes_of rfl rfl rfl rfl) (pmk_E T.o_BadNumber T.ii_BadNumber T.it_BadNumber G_BadNumber_init hr T.b_BadNumber_init (by rfl) T.g_BadNumber (pa_cons (pv 3) pa_nil))))
        pss_nil)
       (pss_one (ps_ret (pv 0))))), ?_⟩
    have e1 : ¬ decide (v < lo) = true := fun z => absurd (of_decide_eq_true z) (by omega)
    have e2 : ¬ decide (hi < v) = true := fun z => absurd (of_decide_eq_true z) (by omega)
    refine ⟨_, rfl, _, rfl, rfl, _, rfl, iteN (by show ¬ (!true) = true; decide) ?_⟩
    refine ⟨_, rfl, _, rfl, _, _, rfl, rfl, _, rfl, iteN e1 ?_⟩
    refine ⟨_, rfl, rfl, _, rfl, iteP rfl ?_⟩
    refine ⟨_, rfl, _, rfl, _, _, rfl, rfl, _, rfl, iteN e2 ?_⟩
    exact ⟨_, rfl, k⟩
  · refine ⟨_, (pss_cons (ps_if (PW.pt (pw_or (pt_not (pt_val (pe_call G_is_int (hr.mono (by decide)) rfl T.g_is_int T.F_is_int.kp T.b_is_int .nil pass0 (pa_cons (pv 0) pa_nil)))) (pw_or1 (pt_cmpR op_lt (pv 0) (pv 1) (nomark _)))))
        (pss_one (ps_raise rfl (takes_of rfl rfl rfl rfl) (pmk_E T.o_BadNumber T.ii_BadNumber T.it_BadNumber G_BadNumber_init hr T.b_BadNumber_init (by rfl) T.g_BadNumber (pa_cons (pv 3) pa_nil))))
        pss_nil)
       (pss_cons (ps_if (PW.pt (pw_and (pt_cmpR op_notN (pv 2) pe_non (nomark _)) (pw_and1 (pt_cmpR op_gt (pv 0) (pv 2) (nomark _)))))
        (pss_one (ps_raise rfl (takes_of rfl rfl rfl rfl) (pmk_E T.o_BadNumber T.ii_BadNumber T.it_BadNumber G_BadNumber_init hr T.b_BadNumber_init (by rfl) T.g_BadNumber (pa_cons (pv 3) pa_nil))))
        pss_nil)
       (pss_one (ps_ret (pv 0))))), ?_⟩
    have fin : ∀ σ : St, σ[3]? = some (some n) → tMkE T.C_BadNumber (sp_BadNumber_init T) (tCons (tVar 3) tNil) σ H fun cls d H' => E cls d H' := fun σ hσ => ⟨_, hσ, raiseE fun d hd => bad H d (Same.refl _) hd⟩
    refine ⟨_, rfl, x, rfl, hx, _, rfl, ?_⟩
    cases x with
    | int v =>
      refine iteN (by show ¬ (!true) = true; decide) ?_
      refine ⟨_, rfl, _, rfl, _, _, rfl, rfl, _, rfl, iteB (fun e => fin _ rfl) fun e => ?_⟩
      refine ⟨_, rfl, rfl, _, rfl, iteP rfl ?_⟩
      have hb' : ¬ (lo ≤ v ∧ v ≤ hi) := of_decide_eq_false hb
      have h1 := of_decide_eq_false e
      refine ⟨_, rfl, _, rfl, _, _, rfl, rfl, _, rfl, iteP (dT (by omega)) (fin _ rfl)⟩
    | bl b => exact iteP rfl (iteP rfl (fin _ rfl))
    | non => exact iteP rfl (iteP rfl (fin _ rfl))
    | str z => exact iteP rfl (iteP rfl (fin _ rfl))
    | _ => cases hx
def sp_ones (_ : Txt K mg) : Sp := fun vs H Q _ => ∃ (n : Nat), vs = [.int n] ∧ n ≤ 12 ∧ Q (.int (2 ^ n - 1)) H
theorem sp_ones_len {T : Txt K mg} {vs H Q E} (h : sp_ones T vs H Q E) : vs.length = 1 := by obtain ⟨_, rfl, _⟩ := h; rfl
theorem ok_ones (T : Txt K mg) : FnOk P w K mg base CX0 4 T.f_ones T.fd_ones ["width"] (sp_ones T) := by
  have G_check_int := ok_check_int (P := P) (w := w) (base := base) T
  refine T.F_ones.ok sc_ones (fun vs H Q E h => sp_ones_len h) (fun cdv A outer s H vs Q E hr h => ?_)
  obtain ⟨n, rfl, hn, k⟩ := h
  refine ⟨_, (pss_cons (ps_expr (pe_call G_check_int hr rfl T.g_check_int T.F_check_int.kp T.b_check_int .nil passL (pa_cons (pv 0) (pa_cons pe_int (pa_cons pe_int (pa_cons pe_str pa_nil))))))
       (pss_one (ps_ret (pe_op op_sub (pe_op op_shl pe_int (pv 0)) pe_int)))), ?_⟩
  refine ⟨_, rfl, .inl ⟨_, _, _, _, rfl, by omega, by omega, ?_⟩⟩
  refine ⟨_, rfl, _, _, rfl, rfl, cpow1 (by omega) (by omega), _, _, rfl, rfl, ?_⟩
  have k' : Q (V.int (1 * 2 ^ (n : Int).toNat - 1)) H := by rw [Int.one_mul, Int.toNat_natCast]; exact k
  exact k'
def sp_TooMany_init (T : Txt K mg) : Sp := sp_exinit T.C_TooMany "name"
theorem sp_TooMany_init_len {T : Txt K mg} {vs H Q E} (h : sp_TooMany_init T vs H Q E) : vs.length = 2 := sp_exinit_len h
theorem ok_TooMany_init (T : Txt K mg) : FnOk P w K mg base CX0 1 T.f_TooMany_init T.fd_TooMany_init ["self", "name"] (sp_TooMany_init T) := by
  skip
  refine T.F_TooMany_init.ok sc_TooMany_init (fun vs H Q E h => sp_TooMany_init_len h) (fun cdv A outer s H vs Q E hr h => ?_)
  obtain ⟨a, v, rfl, ha, k⟩ := h
  refine ⟨_, (pss_one (ps_ost1 (pv 0) (pv 1))), ?_⟩
  exact ⟨_, rfl, _, rfl, a, T.C_TooMany, rfl, T.o_TooMany, T.nf_TooMany, ha, k⟩
end
end My

/-! D -/
namespace My
open PySem L2
local macro_rules | `(tactic| walk_at "side") => `(tactic| first | with_reducible rfl | assumption | rfl | decide | omega | exact cpow1 (by omega) (by omega) | exact cdiv (by omega) (by omega) | exact two_pos _ | exact SqL.of (by assumption) | exact SqT.of (by assumption) | exact TyX.base (TyOf.int _) | exact TyX.base (TyOf.bl _) | exact TyX.base TyOf.non | exact scal_opt _ _ | exact k_ii | exact k_bi | exact k_ni | exact k_ib | exact k_bb | exact TyX.base (TyOf.lst (by assumption)) | exact k_ll | exact k_lt)
local macro_rules | `(tactic| walk_at "p") => `(tactic| repeat (first | refine And.intro (by walk_at "side") ?_ | apply Exists.intro | refine iteN (by assumption) ?_ | refine iteP (by assumption) ?_ | refine iteN (by decide) ?_ | refine iteP (by decide) ?_))

section
variable {P : Program} {w : World} {K : PySem.W.Frag} {mg : Str → Option Value} {base : Heap}
def sp_p_init (T : Txt K mg) : Sp := fun vs H Q _ => ∃ (p dx : Addr) (n : Nat), vs = [.ref p, .int n] ∧ H p = some (.ins T.C dx []) ∧ 1 ≤ n ∧ n ≤ 12 ∧
  ∀ (H' : Hp) (l d : Addr), H l = none → H d = none → l ≠ d → PoolAt T.C H' p l d n [] → (∀ b o, H b = some o → b ≠ p → H' b = some o) → Q .non H'
theorem sp_p_init_len {T : Txt K mg} {vs H Q E} (h : sp_p_init T vs H Q E) : vs.length = 2 := by obtain ⟨_, _, _, rfl, _⟩ := h; rfl
theorem ok_p_init (T : Txt K mg) : FnOk P w K mg base CX0 5 T.f_p_init T.fd_p_init ["self", "width"] (sp_p_init T) := by
  have G_check_int := ok_check_int (P := P) (w := w) (base := base) T; have G_ones := ok_ones (P := P) (w := w) (base := base) T
  refine T.F_p_init.ok sc_p_init (fun vs H Q E h => sp_p_init_len h) (fun cdv A outer s H vs Q E hr h => ?_)
  obtain ⟨p, dx, n, rfl, hp, n1, n2, k⟩ := h
  refine ⟨_, (pss_cons (ps_expr (pe_call G_check_int (hr.mono (by decide)) rfl T.g_check_int T.F_check_int.kp T.b_check_int .nil passL (pa_cons (pv 1) (pa_cons pe_int (pa_cons pe_int (pa_cons pe_str pa_nil))))))
       (pss_cons (ps_fld (pv 0) (pv 1) rfl)
       (pss_cons (ps_fld (pv 0) (pe_call G_ones hr rfl T.g_ones T.F_ones.kp T.b_ones .nil pass0 (pa_cons (pv 1) pa_nil)) rfl)
       (pss_cons (ps_fld (pv 0) (pe_lst pa_nil) rfl)
       (pss_one (ps_fld (pv 0) pe_dnewT rfl)))))), ?_⟩
  refine ⟨_, rfl, .inl ⟨n, 1, 12, _, rfl, by omega, by omega, ?_⟩⟩
  refine ⟨_, rfl, _, rfl, p, T.C, dx, [], rfl, hp, T.cl, T.nA_width, by decide, ?_⟩
  refine ⟨_, rfl, n, rfl, n2, ?_⟩
  refine ⟨_, rfl, p, T.C, dx, _, rfl, upd_same, T.cl, T.nA__most, by show 1 < 1000; decide, ?_⟩
  refine ⟨Nat.zero_le _, fun l hl => ?_⟩
  have pl : p ≠ l := fun e => by rw [e, upd_same] at hl; cases hl
  refine ⟨_, rfl, p, T.C, dx, _, rfl, (by rw [upd_ne pl]; exact upd_same), T.cl, T.nA__parts, (Nat.lt_of_le_of_lt (length_putF _ _ _) (by show 2 < 1000; decide)), ?_⟩
  intro d hd
  have pd : p ≠ d := fun e => by rw [e, upd_same] at hd; cases hd
  have ld : l ≠ d := fun e => by rw [e, upd_ne pd.symm, ← e, upd_same] at hd; cases hd
  have hl0 : H l = none := by rw [upd_ne pl.symm, upd_ne pl.symm] at hl; exact hl
  have hd0 : H d = none := by rw [upd_ne pd.symm, upd_ne ld.symm, upd_ne pd.symm, upd_ne pd.symm] at hd; exact hd
  refine ⟨_, rfl, p, T.C, dx, _, rfl, (by rw [upd_ne pd]; exact upd_same), T.cl, T.nA__numbers, (Nat.lt_of_le_of_lt (length_putF _ _ _) (Nat.lt_of_le_of_lt (Nat.succ_le_succ (length_putF _ _ _)) (by show 3 < 1000; decide))), ?_⟩
  refine k _ l d hl0 hd0 ld ⟨⟨dx, ?_⟩, ⟨[], ?_, rfl, fun i q e => by simp at e⟩, ?_⟩ fun b o e hb => ?_
  · have e := poolF_made n l d
    refine Eq.trans upd_same (congrArg (fun z => some (HO.ins T.C dx z)) e)
  · rw [upd_ne pl.symm, upd_ne ld, upd_ne pl.symm]; exact upd_same
  · rw [upd_ne pd.symm]; exact upd_same
  · rw [upd_ne hb, upd_ne (ne_of_none e hd0), upd_ne hb, upd_ne (ne_of_none e hl0), upd_ne hb, upd_ne hb]; exact e
def sp_p_len (T : Txt K mg) : Sp := fun vs H Q _ => ∃ (a l d : Addr) (n : Nat) (ps : List Part), vs = [.ref a] ∧ PoolAt T.C H a l d n ps ∧ Q (.int (ps.length : Nat)) H
theorem sp_p_len_len {T : Txt K mg} {vs H Q E} (h : sp_p_len T vs H Q E) : vs.length = 1 := by obtain ⟨_, _, _, _, _, rfl, _⟩ := h; rfl
theorem ok_p_len (T : Txt K mg) : FnOk P w K mg base CX0 1 T.f_p_len T.fd_p_len ["self"] (sp_p_len T) := by
  skip
  refine T.F_p_len.ok sc_p_len (fun vs H Q E h => sp_p_len_len h) (fun cdv A outer s H vs Q E hr h => ?_)
  obtain ⟨a, l, d, n, ps, rfl, ⟨⟨dx, ho⟩, hl, hd⟩, k⟩ := h
  obtain ⟨xs, hx, ex, _⟩ := hl.item
  refine ⟨_, (pss_one (ps_ret (pe_callB call_lenL (by rfl) T.n_len (by decide +kernel) (pa_cons (pe_fldA (pv 0)) pa_nil)))), ?_⟩
  refine ⟨_, rfl, a, T.C, dx, _, _, rfl, ho, T.cl, T.nA__parts, look_parts _ _ _, l, xs, rfl, SqL.of hx, ?_⟩
  rw [ex]
  exact k
def sp_p_iter (T : Txt K mg) : Sp := fun vs H Q _ => ∃ (a l d : Addr) (n : Nat) (ps : List Part), vs = [.ref a] ∧ PoolAt T.C H a l d n ps ∧ ∀ it, H it = none → Q (.ref it) (upd H it (ItO l it 0))
theorem sp_p_iter_len {T : Txt K mg} {vs H Q E} (h : sp_p_iter T vs H Q E) : vs.length = 1 := by obtain ⟨_, _, _, _, _, rfl, _⟩ := h; rfl
theorem ok_p_iter (T : Txt K mg) : FnOk P w K mg base CX0 1 T.f_p_iter T.fd_p_iter ["self"] (sp_p_iter T) := by
  skip
  refine T.F_p_iter.ok sc_p_iter (fun vs H Q E h => sp_p_iter_len h) (fun cdv A outer s H vs Q E hr h => ?_)
  obtain ⟨a, l, d, n, ps, rfl, ⟨⟨dx, ho⟩, hl, hd⟩, k⟩ := h
  obtain ⟨xs, hx, ex, _⟩ := hl.item
  refine ⟨_, (pss_one (ps_ret (pe_callB call_iterL (by rfl) T.n_iter (by decide +kernel) (pa_cons (pe_fldA (pv 0)) pa_nil)))), ?_⟩
  exact ⟨_, rfl, a, T.C, dx, _, _, rfl, ho, T.cl, T.nA__parts, look_parts _ _ _, l, xs, rfl, SqL.of hx, k⟩
def goodP (n : Nat) : V → Bool | .int i => decide (0 ≤ i ∧ i < n) | _ => false
def sp_p_check_part (T : Txt K mg) : Sp := fun vs H Q E => ∃ (a l d : Addr) (n : Nat) (ps : List Part) (x : V), vs = [.ref a, x] ∧ PoolAt T.C H a l d n ps ∧ plainV x = true ∧
  (goodP ps.length x = true → Q x H) ∧ (¬ goodP ps.length x = true → E (.ref T.C_BadPart) none H)
theorem sp_p_check_part_len {T : Txt K mg} {vs H Q E} (h : sp_p_check_part T vs H Q E) : vs.length = 2 := by obtain ⟨_, _, _, _, _, _, rfl, _⟩ := h; rfl
theorem ok_p_check_part (T : Txt K mg) : FnOk P w K mg base (L2.CX P w) 2 T.f_p_check_part T.fd_p_check_part ["self", "number"] (sp_p_check_part T) := by
  have G_is_int := ok_is_int (P := P) (w := w) (base := base) T
  refine T.F_p_check_part.okX sc_p_check_part (fun vs H Q E h => sp_p_check_part_len h) (fun cdv A outer s H vs Q E hr h => ?_)
  obtain ⟨a, l, d, n, ps, x, rfl, ⟨⟨dx, ho⟩, hl, hd⟩, hx, k1, k2⟩ := h
  obtain ⟨xs, hL, ex, _⟩ := hl.item
  refine ⟨_, (pss_cons (ps_if (PW.pt (pw_or (pt_not (pt_val (pe_call G_is_int hr rfl T.g_is_int T.F_is_int.kp T.b_is_int .nil pass0 (pa_cons (pv 1) pa_nil)))) (pw_or (pt_cmpR op_lt (pv 1) pe_int (nomark _)) (pw_or1 (pt_cmpR op_ge (pv 1) (pe_callB call_lenL (by rfl) T.n_len (by decide +kernel) (pa_cons (pe_fldA (pv 0)) pa_nil)) (nomark _))))))
        (pss_one (ps_raise rfl (takes_of rfl rfl rfl rfl) (pmk_0 PySem.F.excBase_Exception T.x_BadPart T.g_BadPart T.k_BadPart (raises_own T.sb_BadPart T.ty_BadPart) (by rfl))))
        pss_nil)
       (pss_one (ps_ret (pv 1)))), ?_⟩
  refine ⟨_, rfl, x, rfl, p4 hx, _, rfl, ?_⟩
  cases x <;> (try cases hx)
  · refine iteP rfl (iteP rfl ?_)
    exact k2 (fun z => by cases z)
  · refine iteP rfl (iteP rfl ?_)
    exact k2 (fun z => by cases z)
  rename_i i
  refine iteN (fun z => by cases z) ?_
  refine ⟨_, rfl, _, _, rfl, rfl, _, rfl, ?_⟩
  by_cases h0 : i < 0
  · refine iteP (dT h0) (iteP rfl ?_)
    exact k2 (fun z => absurd (of_decide_eq_true z).1 (by omega))
  refine iteN (dF h0) ?_
  refine ⟨_, rfl, _, rfl, a, T.C, dx, _, _, rfl, ho, T.cl, T.nA__parts, look_parts _ _ _, l, xs, rfl, SqL.of hL, _, _, rfl, rfl, _, rfl, ?_⟩
  rw [ex]
  by_cases h1 : (ps.length : Int) ≤ i
  · refine iteP (dT h1) ?_
    exact k2 (fun z => absurd (of_decide_eq_true z).2 (by omega))
  refine iteN (dF h1) ?_
  refine ⟨_, rfl, ?_⟩
  exact k1 (decide_eq_true ⟨by omega, by omega⟩)
def sp_p_word (T : Txt K mg) : Sp := fun vs H Q _ => ∃ (a l d : Addr) (n : Nat) (ps : List Part) (i : Nat), vs = [.ref a, .int i] ∧ PoolAt T.C H a l d n ps ∧ i < ps.length ∧ Q (optV (wordOf ps i)) H
theorem sp_p_word_len {T : Txt K mg} {vs H Q E} (h : sp_p_word T vs H Q E) : vs.length = 2 := by obtain ⟨_, _, _, _, _, _, rfl, _⟩ := h; rfl
theorem op_ne_num (o : Op) : ¬ o.s = ("num" : Str) := by cases o <;> decide +kernel
theorem ok_p_word (T : Txt K mg) : FnOk P w K mg base CX0 1 T.f_p_word T.fd_p_word ["self", "number"] (sp_p_word T) := by
  skip
  refine T.F_p_word.ok sc_p_word (fun vs H Q E h => sp_p_word_len h) (fun cdv A outer s H vs Q E hr h => ?_)
  obtain ⟨a, l, d, n, ps, i, rfl, ⟨⟨dx, ho⟩, hl, hd⟩, hi, k⟩ := h
  obtain ⟨xs, hL, ex, hit⟩ := hl.item
  obtain ⟨p, hp⟩ : ∃ p, ps[i]? = some p := ⟨_, List.getElem?_eq_getElem hi⟩
  obtain ⟨t, ht, hT⟩ := hit i p hp
  rw [wordOf_at hp] at k
  refine ⟨_, (pss_cons (ps_set (i := 2) sc_p_word.nd rfl (Or.inl rfl) (pe_ix ix_list (pe_fldA (pv 0)) (pv 1) (fun _ _ => rfl)))
       (pss_one (ps_ret (pe_ifExp (pt_cmpR op_eq (pe_ix ix_tup (pv 2) pe_int (fun _ _ => rfl)) pe_str (nomark _)) (pe_ix ix_tup (pv 2) pe_int (fun _ _ => rfl)) pe_non)))), ?_⟩
  refine ⟨_, rfl, a, T.C, dx, _, _, rfl, ho, T.cl, T.nA__parts, look_parts _ _ _, _, rfl, l, xs, _, _, rfl, rfl, SqL.of hL, at_of rfl ht, ?_⟩
  cases p with
  | num v => exact ⟨_, rfl, t, _, 0, _, rfl, rfl, SqT.of hT, rfl, rfl, _, rfl, iteP (by decide) ⟨_, rfl, t, _, 1, _, rfl, rfl, SqT.of hT, rfl, k⟩⟩
  | get v => exact ⟨_, rfl, t, _, 0, _, rfl, rfl, SqT.of hT, rfl, rfl, _, rfl, iteN (by decide) k⟩
  | op o x y =>
    refine ⟨_, rfl, t, _, 0, _, rfl, rfl, SqT.of hT, rfl, rfl, _, rfl, iteN (fun z => op_ne_num o ?_) k⟩
    have z := of_decide_eq_true z
    injection z
theorem num_good (p : Part) (v : Int) : True := trivial
/-- what a call that makes parts leaves -/
def Made (C : Addr) (H : Hp) (a l d : Addr) (n : Nat) (r : Nat × List Part) (Q : VK) : Prop :=
  ∀ H' : Hp, PoolAt C H' a l d n r.2 → (∀ b o, H b = some o → b ≠ l → b ≠ d → H' b = some o) → Q (.int (r.1 : Nat)) H'
theorem PoolAt.news {C : Addr} {H : Hp} {a l d : Addr} {n : Nat} {ps : List Part} (h : PoolAt C H a l d n ps) {H' : Hp} (s : Same H H') : PoolAt C H' a l d n ps :=
  h.keep (S := fun _ => False) (fun b o e _ => s b o e) id id id fun _ _ _ => id
theorem Made.news {C : Addr} {H H' : Hp} {a l d : Addr} {n : Nat} {r : Nat × List Part} {Q : VK} (h : Made C H a l d n r Q) (s : Same H H') : Made C H' a l d n r Q :=
  fun H2 hp k => h H2 hp fun b o e h1 h2 => k b o (s b o e) h1 h2
/-- .. or lets out: a pool is full -/
def MadeX (C CT : Addr) (H : Hp) (a l d : Addr) (n : Nat) (r : Nat × List Part) (Q : VK) (E : XK) : Prop :=
  (r.2.length ≤ 4000 → Made C H a l d n r Q) ∧ (¬ r.2.length ≤ 4000 → ∀ (H' : Hp) (e : Addr), Same H H' → H' e = none → E (.ref CT) (some e) (upd H' e (.xd [("name", .str "parts")])))
theorem MadeX.news {C CT : Addr} {H H' : Hp} {a l d : Addr} {n : Nat} {r : Nat × List Part} {Q : VK} {E : XK} (h : MadeX C CT H a l d n r Q E) (s : Same H H') : MadeX C CT H' a l d n r Q E :=
  ⟨fun z => (h.1 z).news s, fun z H2 e s2 he => h.2 z H2 e (s.trans s2) he⟩
theorem Made.x {C CT : Addr} {H : Hp} {a l d : Addr} {n : Nat} {r : Nat × List Part} {Q : VK} {E : XK} (h : Made C H a l d n r Q) (z : r.2.length ≤ 4000) : MadeX C CT H a l d n r Q E := ⟨fun _ => h, fun z' => absurd z z'⟩
def sp_p_made (T : Txt K mg) : Sp := fun vs H Q E => ∃ (a l d t : Addr) (n : Nat) (ps : List Part) (p : Part), vs = [.ref a, .ref t] ∧ PoolAt T.C H a l d n ps ∧ H t = some (.tup p.vals) ∧ ps.length ≤ 4000 ∧ MadeX T.C T.C_TooMany H a l d n (mk ps p) Q E
theorem sp_p_made_len {T : Txt K mg} {vs H Q E} (h : sp_p_made T vs H Q E) : vs.length = 2 := by obtain ⟨_, _, _, _, _, _, _, rfl, _⟩ := h; rfl
theorem ok_p_made (T : Txt K mg) : FnOk P w K mg base (L2.CX P w) 3 T.f_p_made T.fd_p_made ["self", "part"] (sp_p_made T) := by
  have G_TooMany_init := ok_TooMany_init (P := P) (w := w) (base := base) T
  refine T.F_p_made.okX sc_p_made (fun vs H Q E h => sp_p_made_len h) (fun cdv A outer s H vs Q E hr h => ?_)
  obtain ⟨a, l, d, t, n, ps, p, rfl, ⟨⟨dx, ho⟩, hl, hd⟩, ht, hn, k⟩ := h
  obtain ⟨xs, hL, ex, hit⟩ := hl.item
  have hk : H t = some (.tup (p.key.map kV)) := by rw [key_vals]; exact ht
  have ld : l ≠ d := ne_of hL hd (by intro z; cases z)
  have la : a ≠ l := ne_of ho hL (by intro z; cases z)
  have da : a ≠ d := ne_of ho hd (by intro z; cases z)
  have tl : t ≠ l := ne_of ht hL (by intro z; cases z)
  have td : t ≠ d := ne_of ht hd (by intro z; cases z)
  refine ⟨_, (pss_cons (ps_if (pt_cmp (pc_din (hu_of hr) (pv 1) (pe_fldA (pv 0))))
        (pss_one (ps_ret (pe_dget (hu_of hr) (pe_fldA (pv 0)) (pv 1) (fun _ _ => rfl))))
        pss_nil)
       (pss_cons (ps_if (pt_cmpR op_ge (pe_callB call_lenL (by rfl) T.n_len (by decide +kernel) (pa_cons (pe_fldA (pv 0)) pa_nil)) (pe_glob (v := .int 4000) rfl T.c_MOST_PARTS ⟨_, rfl⟩) (nomark _))
        (pss_one (ps_raise rfl (takes_of rfl rfl rfl rfl) (pmk_E T.o_TooMany T.ii_TooMany T.it_TooMany G_TooMany_init hr T.b_TooMany_init (by rfl) T.g_TooMany (pa_cons pe_str pa_nil))))
        pss_nil)
       (pss_cons (ps_dput (hu_of hr) (pe_fldA (pv 0)) (pv 1) (pe_callB call_lenL (by rfl) T.n_len (by decide +kernel) (pa_cons (pe_fldA (pv 0)) pa_nil)) rfl)
       (pss_cons (ps_expr (pe_bm PySem.F.plainAttrs_list PySem.F.slot_list_append PySem.F.type_list_append mt_append (pe_fldA (pv 0)) (pa_cons (pv 1) pa_nil)))
       (pss_one (ps_ret (pe_dget (hu_of hr) (pe_fldA (pv 0)) (pv 1) (fun _ _ => rfl)))))))), ?_⟩
  refine ⟨_, rfl, _, rfl, a, T.C, dx, _, _, rfl, ho, T.cl, T.nA__numbers, look_numbers _ _ _, d, _, rfl, DGet.t hd hk, ?_⟩
  unfold mk at k
  rw [valV_numd]
  by_cases hm : p ∈ ps
  · rw [if_pos hm] at k ⊢
    refine ⟨_, rfl, iteP rfl ?_⟩
    refine ⟨_, rfl, a, T.C, dx, _, _, rfl, ho, T.cl, T.nA__numbers, look_numbers _ _ _, _, rfl, d, _, rfl, (by have := DGet.t hd hk; rw [valV_numd, if_pos hm] at this; exact this), ?_⟩
    exact k.1 hn H ⟨⟨dx, ho⟩, hl, hd⟩ fun b o e _ _ => e
  · rw [if_neg hm] at k ⊢
    refine ⟨_, rfl, iteN (by decide) ?_⟩
    refine ⟨_, rfl, a, T.C, dx, _, _, rfl, ho, T.cl, T.nA__parts, look_parts _ _ _, l, xs, rfl, SqL.of hL, _, _, rfl, rfl, _, rfl, ite2d (fun full => ?_) fun full => ?_⟩
    · exact raiseE (Q := E) fun e he => k.2 (by rw [List.length_append, List.length_singleton]; omega) H e (Same.refl _) he
    have hn : ps.length < 4000 := by omega
    have k := k.1 (by rw [List.length_append, List.length_singleton]; omega)
    refine ⟨_, rfl, a, T.C, dx, _, _, rfl, ho, T.cl, T.nA__parts, look_parts _ _ _, l, xs, rfl, SqL.of hL, _, rfl, a, T.C, dx, _, _, rfl, ho, T.cl, T.nA__numbers, look_numbers _ _ _, _, rfl, d, _, rfl, DPut.t hd hk (by rw [numd_len, sizeLine_eq]; omega), ?_⟩
    rw [putK_new _ (by rw [valV_numd, if_neg hm]), ex, ← numd_snoc]
    -- self._parts.append(part)
    have ho2 : upd H d (.dT (numd (ps ++ [p]))) a = some (.ins T.C dx (poolF n l d)) := by rw [upd_ne da]; exact ho
    have hL2 : upd H d (.dT (numd (ps ++ [p]))) l = some (.lst xs) := by rw [upd_ne ld]; exact hL
    refine ⟨_, rfl, a, T.C, dx, _, _, rfl, ho2, T.cl, T.nA__parts, look_parts _ _ _, Or.inl ⟨rfl, _, SqL.of hL2⟩, _, rfl, l, xs, _, rfl, rfl, hL2, by rw [ex, sizeLine_eq]; omega, ?_⟩
    have ho3 : upd (upd H d (.dT (numd (ps ++ [p])))) l (.lst (xs ++ [.ref t])) a = some (.ins T.C dx (poolF n l d)) := by rw [upd_ne la]; exact ho2
    have hd3 : upd (upd H d (.dT (numd (ps ++ [p])))) l (.lst (xs ++ [.ref t])) d = some (.dT (numd (ps ++ [p]))) := by rw [upd_ne ld.symm]; exact upd_same
    have hk3 : upd (upd H d (.dT (numd (ps ++ [p])))) l (.lst (xs ++ [.ref t])) t = some (.tup (p.key.map kV)) := by rw [upd_ne tl, upd_ne td]; exact hk
    refine ⟨_, rfl, a, T.C, dx, _, _, rfl, ho3, T.cl, T.nA__numbers, look_numbers _ _ _, _, rfl, d, _, rfl, (by have := DGet.t hd3 hk3; rw [valV_numd, if_pos (by simp)] at this; exact this), ?_⟩
    have ei : (ps ++ [p]).idxOf p = ps.length := by rw [List.idxOf_append, if_neg hm]; simp
    rw [ei]
    refine k _ ⟨⟨dx, ho3⟩, hl.push hL (fun b ys e => ?_) upd_same (by rw [upd_ne tl, upd_ne td]; exact ht), hd3⟩ fun b o e h1 h2 => by rw [upd_ne h1, upd_ne h2]; exact e
    rw [upd_ne (ne_of e hL (by intro z; cases z)), upd_ne (ne_of e hd (by intro z; cases z))]; exact e
end
end My

/-! C -/
namespace My
open PySem L2
local macro_rules | `(tactic| walk_at "side") => `(tactic| first | with_reducible rfl | assumption | rfl | decide | omega | exact cpow1 (by omega) (by omega) | exact cdiv (by omega) (by omega) | exact two_pos _ | exact SqL.of (by assumption) | exact SqT.of (by assumption) | exact TyX.base (TyOf.int _) | exact TyX.base (TyOf.bl _) | exact TyX.base TyOf.non | exact scal_opt _ _ | exact k_ii | exact k_bi | exact k_ni | exact k_ib | exact k_bb | exact TyX.base (TyOf.lst (by assumption)) | exact k_ll | exact k_lt)
local macro_rules | `(tactic| walk_at "p") => `(tactic| repeat (first | refine And.intro (by walk_at "side") ?_ | apply Exists.intro | refine iteN (by assumption) ?_ | refine iteP (by assumption) ?_ | refine iteN (by decide) ?_ | refine iteP (by decide) ?_))

section
variable {P : Program} {w : World} {K : PySem.W.Frag} {mg : Str → Option Value} {base : Heap}
def sp_shortened_twice (_ : Txt K mg) : Sp := fun vs H Q _ => ∃ (o : Op), vs = [.str o.s] ∧ ∀ H', Same H H' → Q (shTwice o).v H'
theorem sp_shortened_twice_len {T : Txt K mg} {vs H Q E} (h : sp_shortened_twice T vs H Q E) : vs.length = 1 := by obtain ⟨_, rfl, _⟩ := h; rfl
theorem ok_shortened_twice (T : Txt K mg) : FnOk P w K mg base CX0 1 T.f_shortened_twice T.fd_shortened_twice ["name"] (sp_shortened_twice T) := by
  skip
  refine T.F_shortened_twice.ok sc_shortened_twice (fun vs H Q E h => sp_shortened_twice_len h) (fun cdv A outer s H vs Q E hr h => ?_)
  obtain ⟨o, rfl, k⟩ := h
  refine ⟨_, (pss_cons (ps_if (pt_cmpR op_in_seq (pv 0) (pe_tup (pa_cons pe_str (pa_cons pe_str (pa_cons pe_str pa_nil)))) (by rfl))
        (pss_one (ps_ret pe_str))
        pss_nil)
       (pss_cons (ps_if (pt_cmpR op_eq (pv 0) pe_str (nomark _))
        (pss_one (ps_ret pe_str))
        pss_nil)
       (pss_cons (ps_if (pt_cmpR op_eq (pv 0) pe_str (nomark _))
        (pss_one (ps_ret pe_str))
        pss_nil)
       (pss_one (ps_ret pe_non))))), ?_⟩
  walk_at "p"
  intro p hp
  refine ⟨p, _, rfl, Or.inr (SqT.of upd_same), rfl, rfl, _, rfl, ?_⟩
  have s1 := same_new (o := .tup [.str "sub", .str "xor", .str "less"]) hp
  cases o
  · refine iteN (by decide) ?_
    walk_at "p"
    exact k _ s1
  · refine iteP (by decide) ?_
    exact k _ s1
  · refine iteN (by decide) ?_
    walk_at "p"
    exact k _ s1
  · refine iteN (by decide) ?_
    walk_at "p"
    exact k _ s1
  · refine iteP (by decide) ?_
    exact k _ s1
  · refine iteP (by decide) ?_
    exact k _ s1
  · refine iteN (by decide) ?_
    walk_at "p"
    exact k _ s1
def sp_shortened_and (_ : Txt K mg) : Sp := fun vs H Q _ => ∃ (fa fb : Option Int) (eq : Bool) (most : Int), vs = [optV fa, optV fb, .bl eq, .int most] ∧ Q (shAnd fa fb eq most).v H
theorem sp_shortened_and_len {T : Txt K mg} {vs H Q E} (h : sp_shortened_and T vs H Q E) : vs.length = 4 := by obtain ⟨_, _, _, _, rfl, _⟩ := h; rfl
theorem ok_shortened_and (T : Txt K mg) : FnOk P w K mg base CX0 1 T.f_shortened_and T.fd_shortened_and ["first", "second", "equal", "most"] (sp_shortened_and T) := by
  skip
  refine T.F_shortened_and.ok sc_shortened_and (fun vs H Q E h => sp_shortened_and_len h) (fun cdv A outer s H vs Q E hr h => ?_)
  obtain ⟨fa, fb, eq, most, rfl, k⟩ := h
  refine ⟨_, (pss_cons (ps_if (PW.pt (pw_or (pt_cmpR op_eq (pv 0) pe_int (nomark _)) (pw_or1 (pt_cmpR op_eq (pv 1) pe_int (nomark _)))))
        (pss_one (ps_ret pe_str))
        pss_nil)
       (pss_cons (ps_if (pt_cmpR op_eq (pv 0) (pv 3) (nomark _))
        (pss_one (ps_ret pe_str))
        pss_nil)
       (pss_cons (ps_if (PW.pt (pw_or (pt_cmpR op_eq (pv 1) (pv 3) (nomark _)) (pw_or1 (pt_val (pv 2)))))
        (pss_one (ps_ret pe_str))
        pss_nil)
       (pss_one (ps_ret pe_non))))), ?_⟩
  have fin : ∀ r : Sh, shAnd fa fb eq most = r → Q r.v H := fun r e => by rw [← e]; exact k
  unfold shAnd at fin
  by_cases h1 : decide (optV fa = V.int 0) = true
  · have e1 := h1; rw [dec_opt, decide_eq_true_eq] at e1
    walk_at "p"; exact fin .zero (if_pos (.inl e1))
  by_cases h2 : decide (optV fb = V.int 0) = true
  · have e1 := h2; rw [dec_opt, decide_eq_true_eq] at e1
    walk_at "p"; exact fin .zero (if_pos (.inr e1))
  have e1 := h1; have e2 := h2
  rw [dec_opt, decide_eq_true_eq] at e1 e2
  rw [if_neg (by rintro (z | z); exact e1 z; exact e2 z)] at fin
  by_cases h3 : decide (optV fa = V.int most) = true
  · have e1 := h3; rw [dec_opt, decide_eq_true_eq] at e1
    walk_at "p"; exact fin .other (if_pos e1)
  have e3 := h3
  rw [dec_opt, decide_eq_true_eq] at e3
  rw [if_neg e3] at fin
  by_cases h4 : decide (optV fb = V.int most) = true
  · have e1 := h4; rw [dec_opt, decide_eq_true_eq] at e1
    walk_at "p"; exact fin .one (if_pos (.inl e1))
  have e4 := h4
  rw [dec_opt, decide_eq_true_eq] at e4
  by_cases h5 : eq = true
  · walk_at "p"; exact fin .one (if_pos (.inr h5))
  · walk_at "p"; exact fin .no (if_neg (by rintro (z | z); exact e4 z; exact h5 z))
def sp_shortened (_ : Txt K mg) : Sp := fun vs H Q _ => ∃ (o : Op) (fa fb : Option Int) (eq : Bool) (most : Int), vs = [.str o.s, optV fa, optV fb, .bl eq, .int most] ∧ ∀ H', Same H H' → Q (shortR o fa fb eq most).v H'
theorem sp_shortened_len {T : Txt K mg} {vs H Q E} (h : sp_shortened T vs H Q E) : vs.length = 5 := by obtain ⟨_, _, _, _, _, rfl, _⟩ := h; rfl
theorem ok_shortened (T : Txt K mg) : FnOk P w K mg base CX0 2 T.f_shortened T.fd_shortened ["name", "first", "second", "equal", "most"] (sp_shortened T) := by
  have G_shortened_and := ok_shortened_and (P := P) (w := w) (base := base) T; have G_shortened_twice := ok_shortened_twice (P := P) (w := w) (base := base) T
  refine T.F_shortened.ok sc_shortened (fun vs H Q E h => sp_shortened_len h) (fun cdv A outer s H vs Q E hr h => ?_)
  obtain ⟨o, fa, fb, eq, most, rfl, k⟩ := h
  refine ⟨_, (pss_cons (ps_if (pt_cmpR op_in_seq (pv 0) (pe_tup (pa_cons pe_str (pa_cons pe_str (pa_cons pe_str pa_nil)))) (by rfl))
        (pss_cons (ps_if (pt_cmpR op_eq (pv 1) pe_int (nomark _))
        (pss_one (ps_ret pe_str))
        pss_nil)
       (pss_one (ps_if (pt_cmpR op_eq (pv 2) pe_int (nomark _))
        (pss_one (ps_ret pe_str))
        pss_nil)))
        pss_nil)
       (pss_cons (ps_if (pt_cmpR op_eq (pv 0) pe_str (nomark _))
        (pss_one (ps_ret (pe_call G_shortened_and hr rfl T.g_shortened_and T.F_shortened_and.kp T.b_shortened_and .nil pass0 (pa_cons (pv 1) (pa_cons (pv 2) (pa_cons (pv 3) (pa_cons (pv 4) pa_nil)))))))
        pss_nil)
       (pss_cons (ps_if (PW.pt (pw_and (pt_cmpR op_eq (pv 2) pe_int (nomark _)) (pw_and1 (pt_cmpR op_eq (pv 0) pe_str (nomark _)))))
        (pss_one (ps_ret pe_str))
        pss_nil)
       (pss_cons (ps_if (PW.pt (pw_and (pt_cmpR op_eq (pv 2) pe_int (nomark _)) (pw_and1 (pt_cmpR op_eq (pv 0) pe_str (nomark _)))))
        (pss_one (ps_ret pe_str))
        pss_nil)
       (pss_cons (ps_if (pt_val (pv 3))
        (pss_one (ps_ret (pe_call G_shortened_twice hr rfl T.g_shortened_twice T.F_shortened_twice.kp T.b_shortened_twice .nil pass0 (pa_cons (pv 0) pa_nil))))
        pss_nil)
       (pss_one (ps_ret pe_non))))))), ?_⟩
  walk_at "p"
  intro p hp
  have s1 := same_new (o := .tup [.str "add", .str "or", .str "xor"]) hp
  refine ⟨p, _, rfl, Or.inr (SqT.of upd_same), rfl, rfl, _, rfl, ?_⟩
  have fin : ∀ (r : Sh) H', Same (upd H p (.tup [.str "add", .str "or", .str "xor"])) H' → shortR o fa fb eq most = r → Q r.v H' := fun r H' hs e => by rw [← e]; exact k H' (s1.trans hs)
  clear k
  have rf := Same.refl (upd H p (.tup [.str "add", .str "or", .str "xor"]))
  have q1 : ¬ decide (optV fa = V.int 0) = true → ¬ fa = some 0 := fun z => by rw [dec_opt, decide_eq_true_eq] at z; exact z
  have q2 : ¬ decide (optV fb = V.int 0) = true → ¬ fb = some 0 := fun z => by rw [dec_opt, decide_eq_true_eq] at z; exact z
  have q3 : decide (optV fa = V.int 0) = true → fa = some 0 := fun z => by rw [dec_opt, decide_eq_true_eq] at z; exact z
  have q4 : decide (optV fb = V.int 0) = true → fb = some 0 := fun z => by rw [dec_opt, decide_eq_true_eq] at z; exact z
  by_cases h1 : decide (optV fa = V.int 0) = true
  · have e1 := q3 h1
    by_cases h2 : decide (optV fb = V.int 0) = true
    · have e2 := q4 h2
      by_cases h5 : eq = true
      · cases o <;> walk_at "p"
        · exact fin .other _ rf (by simp [shortR, e1])
        · exact fin .one _ rf (by simp [shortR, e2])
        · exact fin _ _ rf (by simp [shortR])
        · exact fin .other _ rf (by simp [shortR, e1])
        · exact fin .other _ rf (by simp [shortR, e1])
        · exact fin .zero _ rf (by simp [shortR, e2])
        · exact fun H' hs => fin _ _ hs (by simp [shortR, h5])
      · cases o <;> walk_at "p"
        · exact fin .other _ rf (by simp [shortR, e1])
        · exact fin .one _ rf (by simp [shortR, e2])
        · exact fin _ _ rf (by simp [shortR])
        · exact fin .other _ rf (by simp [shortR, e1])
        · exact fin .other _ rf (by simp [shortR, e1])
        · exact fin .zero _ rf (by simp [shortR, e2])
        · exact fin .no _ rf (by simp [shortR, h5])
    · have e2 := q2 h2
      by_cases h5 : eq = true
      · cases o <;> walk_at "p"
        · exact fin .other _ rf (by simp [shortR, e1])
        · exact fun H' hs => fin _ _ hs (by simp [shortR, e2, h5])
        · exact fin _ _ rf (by simp [shortR])
        · exact fin .other _ rf (by simp [shortR, e1])
        · exact fin .other _ rf (by simp [shortR, e1])
        · exact fun H' hs => fin _ _ hs (by simp [shortR, e2, h5])
        · exact fun H' hs => fin _ _ hs (by simp [shortR, e2, h5])
      · cases o <;> walk_at "p"
        · exact fin .other _ rf (by simp [shortR, e1])
        · exact fin .no _ rf (by simp [shortR, e2, h5])
        · exact fin _ _ rf (by simp [shortR])
        · exact fin .other _ rf (by simp [shortR, e1])
        · exact fin .other _ rf (by simp [shortR, e1])
        · exact fin .no _ rf (by simp [shortR, e2, h5])
        · exact fin .no _ rf (by simp [shortR, e2, h5])
  · have e1 := q1 h1
    by_cases h2 : decide (optV fb = V.int 0) = true
    · have e2 := q4 h2
      by_cases h5 : eq = true
      · cases o <;> walk_at "p"
        · exact fin .one _ rf (by simp [shortR, e1, e2])
        · exact fin .one _ rf (by simp [shortR, e2])
        · exact fin _ _ rf (by simp [shortR])
        · exact fin .one _ rf (by simp [shortR, e1, e2])
        · exact fin .one _ rf (by simp [shortR, e1, e2])
        · exact fin .zero _ rf (by simp [shortR, e2])
        · exact fun H' hs => fin _ _ hs (by simp [shortR, h5])
      · cases o <;> walk_at "p"
        · exact fin .one _ rf (by simp [shortR, e1, e2])
        · exact fin .one _ rf (by simp [shortR, e2])
        · exact fin _ _ rf (by simp [shortR])
        · exact fin .one _ rf (by simp [shortR, e1, e2])
        · exact fin .one _ rf (by simp [shortR, e1, e2])
        · exact fin .zero _ rf (by simp [shortR, e2])
        · exact fin .no _ rf (by simp [shortR, h5])
    · have e2 := q2 h2
      by_cases h5 : eq = true
      · cases o <;> walk_at "p"
        · exact fun H' hs => fin _ _ hs (by simp [shortR, e1, e2, h5])
        · exact fun H' hs => fin _ _ hs (by simp [shortR, e2, h5])
        · exact fin _ _ rf (by simp [shortR])
        · exact fun H' hs => fin _ _ hs (by simp [shortR, e1, e2, h5])
        · exact fun H' hs => fin _ _ hs (by simp [shortR, e1, e2, h5])
        · exact fun H' hs => fin _ _ hs (by simp [shortR, e2, h5])
        · exact fun H' hs => fin _ _ hs (by simp [shortR, e2, h5])
      · cases o <;> walk_at "p"
        · exact fin .no _ rf (by simp [shortR, e1, e2, h5])
        · exact fin .no _ rf (by simp [shortR, e2, h5])
        · exact fin _ _ rf (by simp [shortR])
        · exact fin .no _ rf (by simp [shortR, e1, e2, h5])
        · exact fin .no _ rf (by simp [shortR, e1, e2, h5])
        · exact fin .no _ rf (by simp [shortR, e2, h5])
        · exact fin .no _ rf (by simp [shortR, e2, h5])
end
end My

/-! E -/
namespace My
open PySem L2
local macro_rules | `(tactic| walk_at "side") => `(tactic| first | with_reducible rfl | assumption | rfl | decide | omega | exact cpow1 (by omega) (by omega) | exact cdiv (by omega) (by omega) | exact two_pos _ | exact SqL.of (by assumption) | exact SqT.of (by assumption) | exact TyX.base (TyOf.int _) | exact TyX.base (TyOf.bl _) | exact TyX.base TyOf.non | exact scal_opt _ _ | exact k_ii | exact k_bi | exact k_ni | exact k_ib | exact k_bb | exact TyX.base (TyOf.lst (by assumption)) | exact k_ll | exact k_lt)
local macro_rules | `(tactic| walk_at "p") => `(tactic| repeat (first | refine And.intro (by walk_at "side") ?_ | apply Exists.intro | refine iteN (by assumption) ?_ | refine iteP (by assumption) ?_ | refine iteN (by decide) ?_ | refine iteP (by decide) ?_))

section
variable {P : Program} {w : World} {K : PySem.W.Frag} {mg : Str → Option Value} {base : Heap}
def sp_p_num (T : Txt K mg) : Sp := fun vs H Q E => ∃ (a l d : Addr) (n : Nat) (ps : List Part) (v : Int), vs = [.ref a, .int v] ∧ PoolAt T.C H a l d n ps ∧ ps.length ≤ 4000 ∧ 0 ≤ v ∧ v ≤ 2 ^ n - 1 ∧ MadeX T.C T.C_TooMany H a l d n (mk ps (.num v)) Q E
theorem sp_p_num_len {T : Txt K mg} {vs H Q E} (h : sp_p_num T vs H Q E) : vs.length = 2 := by obtain ⟨_, _, _, _, _, _, rfl, _⟩ := h; rfl
theorem ok_p_num (T : Txt K mg) : FnOk P w K mg base (L2.CX P w) 4 T.f_p_num T.fd_p_num ["self", "value"] (sp_p_num T) := by
  have G_p_made := ok_p_made (P := P) (w := w) (base := base) T; have G_check_int := ok_check_int (P := P) (w := w) (base := base) T; have G_TooMany_init := ok_TooMany_init (P := P) (w := w) (base := base) T
  refine T.F_p_num.okX sc_p_num (fun vs H Q E h => sp_p_num_len h) (fun cdv A outer s H vs Q E hr h => ?_)
  obtain ⟨a, l, d, n, ps, v, rfl, hp, hn, h0, h1, k⟩ := h
  obtain ⟨dx, ho⟩ := id hp.ob
  refine ⟨_, (pss_cons (ps_expr (pe_call G_check_int hr rfl T.g_check_int T.F_check_int.kp T.b_check_int .nil (passes_call (takes_of rfl rfl rfl rfl) (fun _ _ _ _ h => h)) (pa_cons (pv 1) (pa_cons pe_int (pa_cons (pe_fldA (pv 0)) (pa_cons pe_str pa_nil))))))
       (pss_one (ps_ret (pe_meth (pv 0) T.cl T.m_p_made G_p_made hr T.b_p_made .nil (passes_call (takes_of rfl rfl rfl rfl) (fun _ _ _ _ h => h)) (pa_cons (pe_tup (pa_cons pe_str (pa_cons (pv 1) pa_nil))) pa_nil))))), ?_⟩
  refine ⟨_, rfl, _, rfl, a, T.C, dx, _, _, rfl, ho, T.cl, T.nA__most, look_most _ _ _, .inl ⟨v, 0, _, _, rfl, h0, h1, ?_⟩⟩
  refine ⟨_, rfl, a, dx, _, rfl, ho, look_no _ _ _ (by decide +kernel) (by decide +kernel) (by decide +kernel) (by decide +kernel), _, rfl, by show 2 ≤ sizeLine; decide, fun t ht => ?_⟩
  refine ⟨a, l, d, t, n, ps, .num v, rfl, hp.news (same_new ht), upd_same, hn, ?_⟩
  exact k.news (same_new ht)
def sp_p_unknown (T : Txt K mg) : Sp := fun vs H Q E => ∃ (a l d : Addr) (n : Nat) (ps : List Part) (v : Int), vs = [.ref a, .int v] ∧ PoolAt T.C H a l d n ps ∧ ps.length ≤ 4000 ∧ 0 ≤ v ∧ v ≤ 63 ∧ MadeX T.C T.C_TooMany H a l d n (mk ps (.get v)) Q E
theorem sp_p_unknown_len {T : Txt K mg} {vs H Q E} (h : sp_p_unknown T vs H Q E) : vs.length = 2 := by obtain ⟨_, _, _, _, _, _, rfl, _⟩ := h; rfl
theorem ok_p_unknown (T : Txt K mg) : FnOk P w K mg base (L2.CX P w) 4 T.f_p_unknown T.fd_p_unknown ["self", "number"] (sp_p_unknown T) := by
  have G_p_made := ok_p_made (P := P) (w := w) (base := base) T; have G_check_int := ok_check_int (P := P) (w := w) (base := base) T; have G_TooMany_init := ok_TooMany_init (P := P) (w := w) (base := base) T
  refine T.F_p_unknown.okX sc_p_unknown (fun vs H Q E h => sp_p_unknown_len h) (fun cdv A outer s H vs Q E hr h => ?_)
  obtain ⟨a, l, d, n, ps, v, rfl, hp, hn, h0, h1, k⟩ := h
  obtain ⟨dx, ho⟩ := id hp.ob
  refine ⟨_, (pss_cons (ps_expr (pe_call G_check_int hr rfl T.g_check_int T.F_check_int.kp T.b_check_int .nil (passes_call (takes_of rfl rfl rfl rfl) (fun _ _ _ _ h => h)) (pa_cons (pv 1) (pa_cons pe_int (pa_cons (pe_glob (v := .int 63) rfl T.c_LAST_UNKNOWN ⟨_, rfl⟩) (pa_cons pe_str pa_nil))))))
       (pss_one (ps_ret (pe_meth (pv 0) T.cl T.m_p_made G_p_made hr T.b_p_made .nil (passes_call (takes_of rfl rfl rfl rfl) (fun _ _ _ _ h => h)) (pa_cons (pe_tup (pa_cons pe_str (pa_cons (pv 1) pa_nil))) pa_nil))))), ?_⟩
  refine ⟨_, rfl, .inl ⟨v, 0, _, _, rfl, h0, h1, ?_⟩⟩
  refine ⟨_, rfl, a, dx, _, rfl, ho, look_no _ _ _ (by decide +kernel) (by decide +kernel) (by decide +kernel) (by decide +kernel), _, rfl, by show 2 ≤ sizeLine; decide, fun t ht => ?_⟩
  refine ⟨a, l, d, t, n, ps, .get v, rfl, hp.news (same_new ht), upd_same, hn, ?_⟩
  exact k.news (same_new ht)
def sp_p_part (T : Txt K mg) : Sp := fun vs H Q E => ∃ (a l d : Addr) (n : Nat) (ps : List Part) (i : Nat) (p : Part), vs = [.ref a, .int i] ∧ PoolAt T.C H a l d n ps ∧ ps[i]? = some p ∧ ∀ t, H t = some (.tup p.vals) → Q (.ref t) H
theorem sp_p_part_len {T : Txt K mg} {vs H Q E} (h : sp_p_part T vs H Q E) : vs.length = 2 := by obtain ⟨_, _, _, _, _, _, _, rfl, _⟩ := h; rfl
theorem ok_p_part (T : Txt K mg) : FnOk P w K mg base (L2.CX P w) 3 T.f_p_part T.fd_p_part ["self", "number"] (sp_p_part T) := by
  have G_p_check_part := ok_p_check_part (P := P) (w := w) (base := base) T
  refine T.F_p_part.okX sc_p_part (fun vs H Q E h => sp_p_part_len h) (fun cdv A outer s H vs Q E hr h => ?_)
  obtain ⟨a, l, d, n, ps, i, p, rfl, hp, hi, k⟩ := h
  obtain ⟨dx, ho⟩ := id hp.ob
  obtain ⟨xs, hL, ex, hit⟩ := hp.lst.item
  obtain ⟨t, ht, hT⟩ := hit i p hi
  have hlt := (List.getElem?_eq_some_iff.mp hi).1
  refine ⟨_, (pss_one (ps_ret (pe_ix ix_list (pe_fldA (pv 0)) (pe_meth (pv 0) T.cl T.m_p_check_part G_p_check_part hr T.b_p_check_part .nil (passes_call (takes_of rfl rfl rfl rfl) (fun _ _ _ _ h => h)) (pa_cons (pv 1) pa_nil)) (fun _ _ => rfl)))), ?_⟩
  refine ⟨_, rfl, a, T.C, dx, _, _, rfl, ho, T.cl, T.nA__parts, look_parts _ _ _, _, rfl, a, dx, _, rfl, ho, look_no _ _ _ (by decide +kernel) (by decide +kernel) (by decide +kernel) (by decide +kernel), _, rfl, ?_⟩
  refine ⟨a, l, d, n, ps, _, rfl, hp, rfl, fun _ => ?_, fun z => absurd (show goodP ps.length (.int i) = true from decide_eq_true ⟨by omega, by omega⟩) z⟩
  exact ⟨l, xs, _, _, rfl, rfl, SqL.of hL, at_of rfl ht, k t hT⟩
def sp_p_apply (T : Txt K mg) : Sp := fun vs H Q E => ∃ (a l d : Addr) (n : Nat) (ps : List Part) (o : Op) (x y : Nat), vs = [.ref a, .str o.s, .int x, .int y] ∧ PoolAt T.C H a l d n ps ∧ ps.length ≤ 4000 ∧ n ≤ 12 ∧ x < ps.length ∧ y < ps.length ∧
  MadeX T.C T.C_TooMany H a l d n (mApply n ps o x y) Q E
theorem sp_p_apply_len {T : Txt K mg} {vs H Q E} (h : sp_p_apply T vs H Q E) : vs.length = 4 := by obtain ⟨_, _, _, _, _, _, _, _, rfl, _⟩ := h; rfl
theorem good_of {n i : Nat} (h : i < n) : goodP n (.int i) = true := decide_eq_true ⟨by omega, by omega⟩
theorem in_ops (o : Op) : inV (.str o.s) [.str "add", .str "sub", .str "and", .str "or", .str "xor", .str "less", .str "same"] = true := by cases o <;> decide +kernel
theorem in_either (o : Op) : inV (.str o.s) [.str "add", .str "and", .str "or", .str "xor", .str "same"] = either o := by cases o <;> decide +kernel
theorem no_meth {m : Str} {w : Nat} {l d : Addr} (h : (decide (m = "width") || decide (m = "_most") || decide (m = "_parts") || decide (m = "_numbers")) = false) : (poolF w l d).lookup m = none := by
  simp only [Bool.or_eq_false_iff, decide_eq_false_iff_not] at h
  exact look_no _ _ _ h.1.1.1 h.1.1.2 h.1.2 h.2
theorem ok_p_apply (T : Txt K mg) : FnOk P w K mg base (L2.CX P w) 4 T.f_p_apply T.fd_p_apply ["self", "name", "one", "other"] (sp_p_apply T) := by
  have G_p_made := ok_p_made (P := P) (w := w) (base := base) T; have G_p_word := ok_p_word (P := P) (w := w) (base := base) T; have G_p_check_part := ok_p_check_part (P := P) (w := w) (base := base) T; have G_op_word := ok_op_word (P := P) (w := w) (base := base) T; have G_shortened := ok_shortened (P := P) (w := w) (base := base) T; have G_TooMany_init := ok_TooMany_init (P := P) (w := w) (base := base) T
  refine T.F_p_apply.okX sc_p_apply (fun vs H Q E h => sp_p_apply_len h) (fun cdv A outer s H vs Q E hr h => ?_)
  obtain ⟨a, l, d, n, ps, o, x, y, rfl, hp, hn, hw, hx, hy, k⟩ := h
  obtain ⟨dx, ho⟩ := id hp.ob
  refine ⟨_, (pss_cons (ps_if (pt_cmpR op_notIn_seq (pv 1) (pe_glob (v := .ref T.a_OPS) rfl T.c_OPS rfl) (by rfl))
        (pss_one ps_never)
        pss_nil)
       (pss_cons (ps_expr (pe_meth (pv 0) T.cl T.m_p_check_part G_p_check_part (hr.mono (by decide)) T.b_p_check_part .nil (passes_call (takes_of rfl rfl rfl rfl) (fun _ _ _ _ h => h)) (pa_cons (pv 2) pa_nil)))
       (pss_cons (ps_expr (pe_meth (pv 0) T.cl T.m_p_check_part G_p_check_part (hr.mono (by decide)) T.b_p_check_part .nil (passes_call (takes_of rfl rfl rfl rfl) (fun _ _ _ _ h => h)) (pa_cons (pv 3) pa_nil)))
       (pss_cons (ps_par (i := 4) (j := 5) (by rfl) sc_p_apply.nd rfl rfl (by decide) rfl rfl (pa_cons (pe_meth (pv 0) T.cl T.m_p_word G_p_word (hr.mono (by decide)) T.b_p_word .nil pass0 (pa_cons (pv 2) pa_nil)) (pa_cons (pe_meth (pv 0) T.cl T.m_p_word G_p_word (hr.mono (by decide)) T.b_p_word .nil pass0 (pa_cons (pv 3) pa_nil)) pa_nil)) (by rfl))
       (Evl.pss_cut (ps_if (PW.pt (pw_and (pt_cmpR op_notN (pv 4) pe_non (nomark _)) (pw_and1 (pt_cmpR op_notN (pv 5) pe_non (nomark _)))))
        (pss_one (ps_ret (pe_meth (pv 0) T.cl T.m_p_made G_p_made hr T.b_p_made .nil (passes_call (takes_of rfl rfl rfl rfl) (fun _ _ _ _ h => h)) (pa_cons (pe_tup (pa_cons pe_str (pa_cons (pe_call G_op_word (hr.mono (by decide)) rfl T.g_op_word T.F_op_word.kp T.b_op_word .nil pass0 (pa_cons (pv 1) (pa_cons (pv 4) (pa_cons (pv 5) (pa_cons (pe_fldA (pv 0)) pa_nil))))) pa_nil))) pa_nil))))
        pss_nil)
       (Evl.pss_cut (ps_if (PW.pt (pw_and (pt_cmpR op_in_seq (pv 1) (pe_glob (v := .ref T.a_EITHER_WAY) rfl T.c_EITHER_WAY rfl) (by rfl)) (pw_and1 (pt_cmpR op_gt (pv 2) (pv 3) (nomark _)))))
        (pss_cons (ps_par (i := 2) (j := 3) (by rfl) sc_p_apply.nd rfl rfl (by decide) rfl rfl (pa_cons (pv 3) (pa_cons (pv 2) pa_nil)) (by rfl))
       (pss_one (ps_par (i := 4) (j := 5) (by rfl) sc_p_apply.nd rfl rfl (by decide) rfl rfl (pa_cons (pv 5) (pa_cons (pv 4) pa_nil)) (by rfl))))
        pss_nil)
       (pss_cons (ps_set (i := 6) sc_p_apply.nd rfl (Or.inl rfl) (pe_call G_shortened (hr.mono (by decide)) rfl T.g_shortened T.F_shortened.kp T.b_shortened .nil pass0 (pa_cons (pv 1) (pa_cons (pv 4) (pa_cons (pv 5) (pa_cons (pe_cmpR op_eq (pv 2) (pv 3) (nomark _)) (pa_cons (pe_fldA (pv 0)) pa_nil)))))))
       (pss_cons (ps_if (pt_cmpR op_eq (pv 6) pe_str (nomark _))
        (pss_one (ps_ret (pv 2)))
        pss_nil)
       (pss_cons (ps_if (pt_cmpR op_eq (pv 6) pe_str (nomark _))
        (pss_one (ps_ret (pv 3)))
        pss_nil)
       (pss_cons (ps_if (pt_cmpR op_eq (pv 6) pe_str (nomark _))
        (pss_one (ps_ret (pe_meth (pv 0) T.cl T.m_p_made G_p_made hr T.b_p_made .nil (passes_call (takes_of rfl rfl rfl rfl) (fun _ _ _ _ h => h)) (pa_cons (pe_tup (pa_cons pe_str (pa_cons pe_int pa_nil))) pa_nil))))
        pss_nil)
       (pss_cons (ps_if (pt_cmpR op_eq (pv 6) pe_str (nomark _))
        (pss_one (ps_ret (pe_meth (pv 0) T.cl T.m_p_made G_p_made hr T.b_p_made .nil (passes_call (takes_of rfl rfl rfl rfl) (fun _ _ _ _ h => h)) (pa_cons (pe_tup (pa_cons pe_str (pa_cons pe_int pa_nil))) pa_nil))))
        pss_nil)
       (pss_one (ps_ret (pe_meth (pv 0) T.cl T.m_p_made G_p_made hr T.b_p_made .nil (passes_call (takes_of rfl rfl rfl rfl) (fun _ _ _ _ h => h)) (pa_cons (pe_tup (pa_cons (pv 1) (pa_cons (pv 2) (pa_cons (pv 3) pa_nil)))) pa_nil))))))))))))))), ?_⟩
  refine ⟨_, rfl, T.a_OPS, _, rfl, Or.inr (T.v_OPS _), rfl, rfl, _, rfl, iteN (by show ¬ (if true = true then !inV _ _ else inV _ _) = true; rw [if_pos rfl, in_ops]; decide) ?_⟩
  refine ⟨_, rfl, a, dx, _, rfl, ho, no_meth (by decide +kernel), _, rfl, a, l, d, n, ps, _, rfl, hp, rfl, fun _ => ?_, fun z => absurd (good_of hx) z⟩
  refine ⟨_, rfl, a, dx, _, rfl, ho, no_meth (by decide +kernel), _, rfl, a, l, d, n, ps, _, rfl, hp, rfl, fun _ => ?_, fun z => absurd (good_of hy) z⟩
  refine ⟨_, rfl, a, dx, _, rfl, ho, no_meth (by decide +kernel), _, rfl, a, l, d, n, ps, x, rfl, hp, hx, ?_⟩
  refine ⟨_, rfl, a, dx, _, rfl, ho, no_meth (by decide +kernel), _, rfl, a, l, d, n, ps, y, rfl, hp, hy, ?_⟩
  refine ⟨_, _, rfl, ?_⟩
  -- if first is not None and second is not None: return self._made(..)
  refine ⟨fun σ' H' => H' = H ∧ σ' = [some (.ref a), some (.str o.s), some (.int x), some (.int y), some (optV (wordOf ps x)), some (optV (wordOf ps y)), none] ∧
    MadeX T.C T.C_TooMany H a l d n (if either o = true ∧ y < x then fin ps o y x (shortR o (wordOf ps y) (wordOf ps x) (decide (y = x)) (2 ^ n - 1)) else fin ps o x y (shortR o (wordOf ps x) (wordOf ps y) (decide (x = y)) (2 ^ n - 1))) Q E, ?_, ?_⟩
  · unfold mApply at k
    cases efa : wordOf ps x with
    | none =>
      rw [efa] at k
      exact ⟨_, rfl, rfl, _, rfl, iteN (by decide) (iteN (by decide) ⟨rfl, rfl, k⟩)⟩
    | some fx =>
      cases efb : wordOf ps y with
      | none =>
        rw [efa, efb] at k
        exact ⟨_, rfl, rfl, _, rfl, iteP rfl ⟨_, rfl, rfl, _, rfl, iteN (by decide) ⟨rfl, rfl, k⟩⟩⟩
      | some fy =>
        rw [efa, efb] at k
        refine ⟨_, rfl, rfl, _, rfl, iteP rfl ⟨_, rfl, rfl, _, rfl, iteP rfl ?_⟩⟩
        refine ⟨_, rfl, a, dx, _, rfl, ho, no_meth (by decide +kernel), _, rfl, _, rfl, _, rfl, _, rfl, a, T.C, dx, _, _, rfl, ho, T.cl, T.nA_width, look_width _ _ _, o, fx, fy, n, rfl, hw, by show 2 ≤ sizeLine; decide, fun t ht => ?_⟩
        exact ⟨a, l, d, t, n, ps, .num _, rfl, hp.news (same_new ht), upd_same, hn, k.news (same_new ht)⟩
  rintro σ' H' ⟨rfl, rfl, k⟩
  -- the operands change places
  refine ⟨fun σ' H1 => H1 = H' ∧ ∃ (x y : Nat) (fa fb : Option Int), σ' = [some (.ref a), some (.str o.s), some (.int x), some (.int y), some (optV fa), some (optV fb), none] ∧ x < ps.length ∧ y < ps.length ∧
    MadeX T.C T.C_TooMany H' a l d n (fin ps o x y (shortR o fa fb (decide (x = y)) (2 ^ n - 1))) Q E, ?_, ?_⟩
  · refine ⟨_, rfl, T.a_EITHER_WAY, _, rfl, Or.inr (T.v_EITHER_WAY _), rfl, rfl, _, rfl, ?_⟩
    by_cases he : either o = true
    · refine iteP (by show (if false = true then _ else inV _ _) = true; rw [if_neg Bool.false_ne_true, in_either]; exact he) ?_
      refine ⟨_, rfl, _, rfl, _, _, rfl, rfl, _, rfl, ?_⟩
      by_cases hxy : y < x
      · rw [if_pos ⟨he, hxy⟩] at k
        refine iteP (dT (by omega)) ?_
        exact ⟨_, rfl, _, rfl, _, _, rfl, _, rfl, _, rfl, _, _, rfl, rfl, y, x, _, _, rfl, hy, hx, k⟩
      · rw [if_neg (fun z => hxy z.2)] at k
        exact iteN (dF (by omega)) ⟨rfl, x, y, _, _, rfl, hx, hy, k⟩
    · rw [if_neg (fun z => he z.1)] at k
      exact iteN (by show ¬ (if false = true then _ else inV _ _) = true; rw [if_neg Bool.false_ne_true, in_either]; exact he) (iteN (by decide) ⟨rfl, x, y, _, _, rfl, hx, hy, k⟩)
  rintro σ' H1 ⟨rfl, x, y, fa, fb, rfl, hx, hy, k⟩
  have ed : decide (V.int (x : Int) = V.int y) = decide (x = y) := by
    by_cases e : x = y
    · rw [decide_eq_true e, decide_eq_true (by rw [e])]
    · rw [decide_eq_false e, decide_eq_false (fun z => e (by injection z with z; omega))]
  refine ⟨_, rfl, _, rfl, _, rfl, _, rfl, _, rfl, rfl, _, rfl, a, T.C, dx, _, _, rfl, ho, T.cl, T.nA__most, look_most _ _ _, ?_⟩
  rw [ed]
  refine ⟨o, fa, fb, _, _, rfl, fun H2 s2 => ?_⟩
  have k := k.news s2
  have hp := hp.news s2
  have ho := s2 _ _ ho
  cases e : shortR o fa fb (decide (x = y)) (2 ^ n - 1) with
  | one =>
    rw [e] at k
    refine ⟨_, rfl, rfl, _, rfl, iteP (by decide) ?_⟩
    exact ⟨_, rfl, k.1 hn H2 hp fun b u h _ _ => h⟩
  | other =>
    rw [e] at k
    refine ⟨_, rfl, rfl, _, rfl, iteN (by decide) ⟨_, rfl, rfl, _, rfl, iteP (by decide) ?_⟩⟩
    exact ⟨_, rfl, k.1 hn H2 hp fun b u h _ _ => h⟩
  | zero =>
    rw [e] at k
    refine ⟨_, rfl, rfl, _, rfl, iteN (by decide) ⟨_, rfl, rfl, _, rfl, iteN (by decide) ⟨_, rfl, rfl, _, rfl, iteP (by decide) ?_⟩⟩⟩
    refine ⟨_, rfl, a, dx, _, rfl, ho, no_meth (by decide +kernel), by show 2 ≤ sizeLine; decide, fun t ht => ?_⟩
    exact ⟨a, l, d, t, n, ps, .num 0, rfl, hp.news (same_new ht), upd_same, hn, k.news (same_new ht)⟩
  | unit =>
    rw [e] at k
    refine ⟨_, rfl, rfl, _, rfl, iteN (by decide) ⟨_, rfl, rfl, _, rfl, iteN (by decide) ⟨_, rfl, rfl, _, rfl, iteN (by decide) ⟨_, rfl, rfl, _, rfl, iteP (by decide) ?_⟩⟩⟩⟩
    refine ⟨_, rfl, a, dx, _, rfl, ho, no_meth (by decide +kernel), by show 2 ≤ sizeLine; decide, fun t ht => ?_⟩
    exact ⟨a, l, d, t, n, ps, .num 1, rfl, hp.news (same_new ht), upd_same, hn, k.news (same_new ht)⟩
  | no =>
    rw [e] at k
    refine ⟨_, rfl, rfl, _, rfl, iteN (by decide) ⟨_, rfl, rfl, _, rfl, iteN (by decide) ⟨_, rfl, rfl, _, rfl, iteN (by decide) ⟨_, rfl, rfl, _, rfl, iteN (by decide) ?_⟩⟩⟩⟩
    refine ⟨_, rfl, a, dx, _, rfl, ho, no_meth (by decide +kernel), _, rfl, _, rfl, _, rfl, by show 3 ≤ sizeLine; decide, fun t ht => ?_⟩
    exact ⟨a, l, d, t, n, ps, .op o x y, rfl, hp.news (same_new ht), upd_same, hn, k.news (same_new ht)⟩
end
end My

/-! R -/
/-! what a part is made of -/
namespace My
open PySem L2
inductive Reach (ps : List Part) (n : Nat) : Nat → Prop
  | self : Reach ps n n
  | left {k : Nat} {o : Op} {a b : Nat} : Reach ps n k → ps[k]? = some (Part.op o a b) → Reach ps n a
  | right {k : Nat} {o : Op} {a b : Nat} : Reach ps n k → ps[k]? = some (Part.op o a b) → Reach ps n b
/-- operands stand ahead -/
def WF (ps : List Part) : Prop := ∀ (k : Nat) (o : Op) (a b : Nat), ps[k]? = some (Part.op o a b) → a < k ∧ b < k
theorem Reach.le {ps : List Part} {n k : Nat} (w : WF ps) (h : Reach ps n k) : k ≤ n := by
  induction h with
  | self => exact Nat.le_refl _
  | left _ e ih => have := w _ _ _ _ e; omega
  | right _ e ih => have := w _ _ _ _ e; omega
structure ReachL (ps : List Part) (n : Nat) (ks : List Nat) : Prop where
  asc : ks.Pairwise (· < ·)
  mem : ∀ k, k ∈ ks ↔ Reach ps n k
theorem asc_ext : ∀ {xs ys : List Nat}, xs.Pairwise (· < ·) → ys.Pairwise (· < ·) → (∀ k, k ∈ xs ↔ k ∈ ys) → xs = ys
  | [], [], _, _, _ => rfl
  | [], y :: ys, _, _, h => absurd ((h y).mpr List.mem_cons_self) (by simp)
  | x :: xs, [], _, _, h => absurd ((h x).mp List.mem_cons_self) (by simp)
  | x :: xs, y :: ys, hx, hy, h => by
    obtain ⟨hx1, hx2⟩ := List.pairwise_cons.mp hx
    obtain ⟨hy1, hy2⟩ := List.pairwise_cons.mp hy
    have e : x = y := by
      rcases List.mem_cons.mp ((h x).mp List.mem_cons_self) with e | e
      · exact e
      · rcases List.mem_cons.mp ((h y).mpr List.mem_cons_self) with e' | e'
        · exact e'.symm
        · have := hy1 _ e; have := hx1 _ e'; omega
    subst e
    rw [asc_ext hx2 hy2 fun k => ⟨fun m => ?_, fun m => ?_⟩]
    · rcases List.mem_cons.mp ((h k).mp (List.mem_cons_of_mem _ m)) with e | e
      · have := hx1 _ m; omega
      · exact e
    · rcases List.mem_cons.mp ((h k).mpr (List.mem_cons_of_mem _ m)) with e | e
      · have := hy1 _ m; omega
      · exact e
theorem ReachL.uniq {ps : List Part} {n : Nat} {ks ls : List Nat} (h : ReachL ps n ks) (h' : ReachL ps n ls) : ks = ls :=
  asc_ext h.asc h'.asc fun k => (h.mem k).trans (h'.mem k).symm
/-- the dict of what is found -/
def dk (F : List Nat) : List (Key × V) := F.map fun (k : Nat) => (Sum.inl ((k : Nat) : Int), V.bl true)
theorem valV_dk (k : Nat) : ∀ F : List Nat, valV (dk F) (Sum.inl (k : Int)) = if k ∈ F then some (.bl true) else none
  | [] => rfl
  | j :: F => by
    have ih := valV_dk k F
    unfold dk at ih ⊢
    rw [List.map_cons]
    by_cases e : j = k
    · subst e
      rw [valV_pos rfl, if_pos List.mem_cons_self]
    · rw [valV_neg (fun z => e (by have := Sum.inl.inj z; exact Int.ofNat.inj this)), ih]
      by_cases m : k ∈ F
      · rw [if_pos m, if_pos (List.mem_cons_of_mem _ m)]
      · rw [if_neg m, if_neg (fun z => m ((List.mem_cons.mp z).resolve_left (fun y => e y.symm)))]
theorem dk_len (F : List Nat) : (dk F).length = F.length := by unfold dk; simp
theorem dk_put {F : List Nat} {k : Nat} (h : k ∉ F) : putK (dk F) (Sum.inl (k : Int)) (.bl true) = dk (F ++ [k]) := by
  rw [putK_new _ (by rw [valV_dk, if_neg h])]; unfold dk; simp
theorem dk_keys (F : List Nat) : (dk F).map (·.1) = (F.map fun (k : Nat) => ((k : Nat) : Int)).map Sum.inl := by unfold dk; simp
/-- found and waiting -/
structure FW (ps : List Part) (n : Nat) (F W : List Nat) : Prop where
  nd : F.Nodup
  sub : ∀ k ∈ W, k ∈ F
  rch : ∀ k ∈ F, Reach ps n k
  n_in : n ∈ F
  clo : ∀ k ∈ F, k ∉ W → ∀ (o : Op) (a b : Nat), ps[k]? = some (Part.op o a b) → a ∈ F ∧ b ∈ F
def addN (s : List Nat × List Nat) (k : Nat) : List Nat × List Nat := if k ∈ s.1 then s else (s.1 ++ [k], s.2 ++ [k])
theorem addN_in {s : List Nat × List Nat} {k : Nat} (h : k ∈ s.1) : addN s k = s := if_pos h
theorem addN_new {s : List Nat × List Nat} {k : Nat} (h : k ∉ s.1) : addN s k = (s.1 ++ [k], s.2 ++ [k]) := if_neg h
theorem nodup_lt : ∀ {n : Nat} {F : List Nat}, F.Nodup → (∀ k ∈ F, k < n) → F.length ≤ n
  | 0, F, _, hk => by
    cases F with
    | nil => exact Nat.le_refl _
    | cons x r => exact absurd (hk x List.mem_cons_self) (Nat.not_lt_zero _)
  | n + 1, F, h, hk => by
    have ih := nodup_lt (n := n) (F := F.erase n) (h.erase n) fun k m => by
      have := (h.mem_erase_iff).mp m
      have := hk k this.2
      omega
    rw [List.length_erase] at ih
    split at ih <;> omega
end My
namespace My
open PySem L2
def adds (s : List Nat × List Nat) (l : List Nat) : List Nat × List Nat := l.foldl addN s
theorem adds_two {s : List Nat × List Nat} (x y : Nat) (i : Nat) (v : Nat) (h : [x, y][i]? = some v) : adds s ([x, y].take (i + 1)) = addN (adds s ([x, y].take i)) v := by
  match i, h with
  | 0, h => cases h; rfl
  | 1, h => cases h; rfl
  | i + 2, h => simp at h
theorem addN_mono {s : List Nat × List Nat} {k j : Nat} (h : j ∈ s.1) : j ∈ (addN s k).1 := by
  unfold addN; split
  · exact h
  · exact List.mem_append_left _ h
theorem addN_self {s : List Nat × List Nat} {k : Nat} : k ∈ (addN s k).1 := by
  unfold addN; split
  · assumption
  · simp
/-- one turn -/
structure Mid (ps : List Part) (n : Nat) (s : List Nat × List Nat) (j : Nat) : Prop where
  nd : s.1.Nodup
  sub : ∀ k ∈ s.2, k ∈ s.1
  rch : ∀ k ∈ s.1, Reach ps n k
  n_in : n ∈ s.1
  clo : ∀ k ∈ s.1, k ∉ s.2 → k ≠ j → ∀ (o : Op) (a b : Nat), ps[k]? = some (Part.op o a b) → a ∈ s.1 ∧ b ∈ s.1
theorem Mid.add {ps : List Part} {n : Nat} {s : List Nat × List Nat} {j k : Nat} (m : Mid ps n s j) (r : Reach ps n k) : Mid ps n (addN s k) j := by
  by_cases h : k ∈ s.1
  · rw [addN_in h]; exact m
  · rw [addN_new h]
    refine ⟨?_, fun z hz => ?_, fun z hz => ?_, List.mem_append_left _ m.n_in, fun z hz hn hj o a b e => ?_⟩
    · exact List.nodup_append.mpr ⟨m.nd, by simp, by intro a ha b hb; simp at hb; subst hb; exact fun e => h (e ▸ ha)⟩
    · rcases List.mem_append.mp hz with hz | hz
      · exact List.mem_append_left _ (m.sub z hz)
      · exact List.mem_append_right _ hz
    · rcases List.mem_append.mp hz with hz | hz
      · exact m.rch z hz
      · simp at hz; subst hz; exact r
    · rcases List.mem_append.mp hz with hz | hz
      · have := m.clo z hz (fun q => hn (List.mem_append_left _ q)) hj o a b e
        exact ⟨List.mem_append_left _ this.1, List.mem_append_left _ this.2⟩
      · exact absurd (List.mem_append_right _ hz) hn
theorem FW.mid {ps : List Part} {n : Nat} {F W : List Nat} {j : Nat} (f : FW ps n F (W ++ [j])) : Mid ps n (F, W) j :=
  ⟨f.nd, fun k m => f.sub k (List.mem_append_left _ m), f.rch, f.n_in, fun k hk hn hj o a b e => f.clo k hk (by simp [hn, hj]) o a b e⟩
theorem Mid.fw {ps : List Part} {n : Nat} {s : List Nat × List Nat} {j : Nat} (m : Mid ps n s j) (h : ∀ (o : Op) (a b : Nat), ps[j]? = some (Part.op o a b) → a ∈ s.1 ∧ b ∈ s.1) : FW ps n s.1 s.2 :=
  ⟨m.nd, m.sub, m.rch, m.n_in, fun k hk hn o a b e => by
    by_cases hj : k = j
    · subst hj; exact h o a b e
    · exact m.clo k hk hn hj o a b e⟩
/-- the measure of one step -/
theorem addN_meas (N : Nat) (s : List Nat × List Nat) (k : Nat) (h : (addN s k).1.length ≤ N) : 2 * (N - (addN s k).1.length) + (addN s k).2.length ≤ 2 * (N - s.1.length) + s.2.length := by
  unfold addN at h ⊢
  split
  · exact Nat.le_refl _
  · rename_i hk
    rw [if_neg hk] at h
    simp at h ⊢
    omega
end My

/-! R2 -/
namespace My
open PySem L2
/-! ### made or found -/
theorem mk_at (ps : List Part) (p : Part) : (mk ps p).2[(mk ps p).1]? = some p := by
  unfold mk; split
  · rename_i h
    have := List.idxOf_lt_length_iff.mpr h
    rw [List.getElem?_eq_getElem this, List.getElem_idxOf]
  · rw [List.getElem?_append_right (Nat.le_refl _), Nat.sub_self]; rfl
theorem mk_lt (ps : List Part) (p : Part) : (mk ps p).1 < (mk ps p).2.length := (List.getElem?_eq_some_iff.mp (mk_at ps p)).1
theorem mk_pre (ps : List Part) (p : Part) : ps <+: (mk ps p).2 := by unfold mk; split; exact List.prefix_refl _; exact List.prefix_append _ _
theorem mk_len (ps : List Part) (p : Part) : (mk ps p).2.length ≤ ps.length + 1 := by unfold mk; split <;> simp
theorem fin_lt {ps : List Part} {o : Op} {a b : Nat} (ha : a < ps.length) (hb : b < ps.length) (s : Sh) : (fin ps o a b s).1 < (fin ps o a b s).2.length := by
  cases s <;> first | exact ha | exact hb | exact mk_lt _ _
theorem fin_pre (ps : List Part) (o : Op) (a b : Nat) (s : Sh) : ps <+: (fin ps o a b s).2 := by cases s <;> first | exact List.prefix_refl _ | exact mk_pre _ _
theorem fin_len (ps : List Part) (o : Op) (a b : Nat) (s : Sh) : (fin ps o a b s).2.length ≤ ps.length + 1 := by cases s <;> first | exact Nat.le_succ _ | exact mk_len _ _
theorem mApply_lt {w : Nat} {ps : List Part} {o : Op} {a b : Nat} (ha : a < ps.length) (hb : b < ps.length) : (mApply w ps o a b).1 < (mApply w ps o a b).2.length := by
  unfold mApply; split
  · exact mk_lt _ _
  · split
    · exact fin_lt hb ha _
    · exact fin_lt ha hb _
theorem mApply_pre (w : Nat) (ps : List Part) (o : Op) (a b : Nat) : ps <+: (mApply w ps o a b).2 := by
  unfold mApply; split
  · exact mk_pre _ _
  · split <;> exact fin_pre _ _ _ _ _
theorem mApply_len (w : Nat) (ps : List Part) (o : Op) (a b : Nat) : (mApply w ps o a b).2.length ≤ ps.length + 1 := by
  unfold mApply; split
  · exact mk_len _ _
  · split <;> exact fin_len _ _ _ _ _
/-! ### well made pools -/
def GetOk (ps : List Part) : Prop := ∀ (k : Nat) (i : Int), ps[k]? = some (Part.get i) → 0 ≤ i ∧ i ≤ 63
def NumOk (w : Nat) (ps : List Part) : Prop := ∀ (k : Nat) (v : Int), ps[k]? = some (Part.num v) → 0 ≤ v ∧ v < 2 ^ w
def Ahead (n : Nat) : Part → Prop | .op _ a b => a < n ∧ b < n | _ => True
def PartOk (w : Nat) : Part → Prop | .num v => 0 ≤ v ∧ v < 2 ^ w | .get i => 0 ≤ i ∧ i ≤ 63 | .op _ _ _ => True
structure Ok (w : Nat) (ps : List Part) : Prop where
  wf : WF ps
  get : GetOk ps
  num : NumOk w ps
theorem ok_nil (w : Nat) : Ok w [] := ⟨fun _ _ _ _ e => by simp at e, fun _ _ e => by simp at e, fun _ _ e => by simp at e⟩
theorem ok_snoc {w : Nat} {ps : List Part} {p : Part} (h : Ok w ps) (ha : Ahead ps.length p) (hp : PartOk w p) : Ok w (ps ++ [p]) := by
  have at_ : ∀ {k : Nat} {q : Part}, (ps ++ [p])[k]? = some q → ps[k]? = some q ∨ (k = ps.length ∧ q = p) := by
    intro k q e
    by_cases hk : k < ps.length
    · rw [List.getElem?_append_left hk] at e; exact .inl e
    · have hl := (List.getElem?_eq_some_iff.mp e).1
      rw [List.length_append, List.length_singleton] at hl
      have ek : k = ps.length := by omega
      subst ek
      rw [List.getElem?_append_right (Nat.le_refl _), Nat.sub_self] at e
      cases e
      exact .inr ⟨rfl, rfl⟩
  refine ⟨fun k o a b e => ?_, fun k i e => ?_, fun k v e => ?_⟩
  · rcases at_ e with e | ⟨rfl, rfl⟩
    · exact h.wf _ _ _ _ e
    · exact ha
  · rcases at_ e with e | ⟨rfl, rfl⟩
    · exact h.get _ _ e
    · exact hp
  · rcases at_ e with e | ⟨rfl, rfl⟩
    · exact h.num _ _ e
    · exact hp
theorem ok_mk {w : Nat} {ps : List Part} {p : Part} (h : Ok w ps) (ha : Ahead ps.length p) (hp : PartOk w p) : Ok w (mk ps p).2 := by
  unfold mk; split
  · exact h
  · exact ok_snoc h ha hp
theorem pow_pos' (w : Nat) : (0 : Int) < 2 ^ w := Int.pow_pos (by decide)
theorem one_lt {w : Nat} (h : 1 ≤ w) : (1 : Int) < 2 ^ w := by
  obtain ⟨k, rfl⟩ : ∃ k, w = k + 1 := ⟨w - 1, by omega⟩
  have := pow_pos' k
  rw [Int.pow_succ]; omega
theorem and_range {w : Nat} {x y : Int} (hx : 0 ≤ x) (hy : 0 ≤ y) (hxw : x < 2 ^ w) (hyw : y < 2 ^ w) : 0 ≤ Builtin.bitAnd x y ∧ Builtin.bitAnd x y < 2 ^ w := by
  obtain ⟨a, rfl⟩ := Int.eq_ofNat_of_zero_le hx
  obtain ⟨b, rfl⟩ := Int.eq_ofNat_of_zero_le hy
  have e : Builtin.bitAnd (a : Int) (b : Int) = ((a &&& b : Nat) : Int) := by simp [Builtin.bitAnd]
  rw [e]
  refine ⟨by omega, ?_⟩
  have h2 : a < 2 ^ w := by exact_mod_cast hxw
  have := Nat.and_lt_two_pow (n := w) b (by exact_mod_cast hyw) |> fun _ => Nat.lt_of_le_of_lt (Nat.and_le_left (n := a) (m := b)) h2
  exact_mod_cast this
theorem or_range {w : Nat} {x y : Int} (hx : 0 ≤ x) (hy : 0 ≤ y) (hxw : x < 2 ^ w) (hyw : y < 2 ^ w) : 0 ≤ Builtin.bitOr x y ∧ Builtin.bitOr x y < 2 ^ w := by
  obtain ⟨a, rfl⟩ := Int.eq_ofNat_of_zero_le hx
  obtain ⟨b, rfl⟩ := Int.eq_ofNat_of_zero_le hy
  have e : Builtin.bitOr (a : Int) (b : Int) = ((a ||| b : Nat) : Int) := by rw [Bits.bitOr_pp (by omega) (by omega), Int.toNat_natCast, Int.toNat_natCast]
  rw [e]
  refine ⟨by omega, ?_⟩
  have := Nat.or_lt_two_pow (x := a) (y := b) (n := w) (by exact_mod_cast hxw) (by exact_mod_cast hyw)
  exact_mod_cast this
theorem xor_range {w : Nat} {x y : Int} (hx : 0 ≤ x) (hy : 0 ≤ y) (hxw : x < 2 ^ w) (hyw : y < 2 ^ w) : 0 ≤ Builtin.bitXor x y ∧ Builtin.bitXor x y < 2 ^ w := by
  obtain ⟨a, rfl⟩ := Int.eq_ofNat_of_zero_le hx
  obtain ⟨b, rfl⟩ := Int.eq_ofNat_of_zero_le hy
  have e : Builtin.bitXor (a : Int) (b : Int) = ((a ^^^ b : Nat) : Int) := by rw [Bits.bitXor_pp (by omega) (by omega), Int.toNat_natCast, Int.toNat_natCast]
  rw [e]
  refine ⟨by omega, ?_⟩
  have := Nat.xor_lt_two_pow (x := a) (y := b) (n := w) (by exact_mod_cast hxw) (by exact_mod_cast hyw)
  exact_mod_cast this
theorem opI_range {w : Nat} (h1 : 1 ≤ w) {o : Op} {x y : Int} (hx : 0 ≤ x ∧ x < 2 ^ w) (hy : 0 ≤ y ∧ y < 2 ^ w) : 0 ≤ opI w o x y ∧ opI w o x y < 2 ^ w := by
  have p := pow_pos' w
  have q := one_lt h1
  cases o <;> simp only [opI]
  · exact ⟨Int.emod_nonneg _ (by omega), Int.emod_lt_of_pos _ p⟩
  · exact ⟨Int.emod_nonneg _ (by omega), Int.emod_lt_of_pos _ p⟩
  · exact and_range hx.1 hy.1 hx.2 hy.2
  · exact or_range hx.1 hy.1 hx.2 hy.2
  · exact xor_range hx.1 hy.1 hx.2 hy.2
  · split <;> omega
  · split <;> omega
theorem word_ok {w : Nat} {ps : List Part} (h : Ok w ps) {a : Nat} {x : Int} (e : wordOf ps a = some x) : 0 ≤ x ∧ x < 2 ^ w := by
  unfold wordOf at e
  cases q : ps[a]? with
  | none => rw [q] at e; cases e
  | some p =>
    rw [q] at e
    cases p with
    | num v => cases e; exact h.num _ _ q
    | get i => cases e
    | op o a b => cases e
theorem ok_fin {w : Nat} (h1 : 1 ≤ w) {ps : List Part} (h : Ok w ps) {o : Op} {a b : Nat} (ha : a < ps.length) (hb : b < ps.length) (s : Sh) : Ok w (fin ps o a b s).2 := by
  cases s
  · exact h
  · exact h
  · exact ok_mk h trivial ⟨Int.le_refl _, pow_pos' w⟩
  · exact ok_mk h trivial ⟨by decide, one_lt h1⟩
  · exact ok_mk h ⟨ha, hb⟩ trivial
theorem ok_mApply {w : Nat} (h1 : 1 ≤ w) {ps : List Part} (h : Ok w ps) {o : Op} {a b : Nat} (ha : a < ps.length) (hb : b < ps.length) : Ok w (mApply w ps o a b).2 := by
  unfold mApply; split
  · rename_i x y ea eb
    exact ok_mk h trivial (opI_range h1 (word_ok h ea) (word_ok h eb))
  · split
    · exact ok_fin h1 h hb ha _
    · exact ok_fin h1 h ha hb _
end My

/-! R3 -/
namespace My
open PySem L2
/-! ### words of parts -/
def evV (w : Nat) (env : Int → Int) (acc : List Int) : Part → Int | .num v => v | .get i => env i | .op o a b => opI w o (acc.getD a 0) (acc.getD b 0)
def evStep (w : Nat) (env : Int → Int) (acc : List Int) (p : Part) : List Int := acc ++ [evV w env acc p]
def evs (w : Nat) (env : Int → Int) (ps : List Part) : List Int := ps.foldl (evStep w env) []
def evAt (w : Nat) (env : Int → Int) (ps : List Part) (k : Nat) : Int := (evs w env ps).getD k 0
theorem evs_snoc (w : Nat) (env : Int → Int) (ps : List Part) (p : Part) : evs w env (ps ++ [p]) = evs w env ps ++ [evV w env (evs w env ps) p] := by
  unfold evs; rw [List.foldl_append]; rfl
theorem snoc_ind {α : Type} {C : List α → Prop} (h0 : C []) (hs : ∀ l x, C l → C (l ++ [x])) : ∀ l, C l := by
  have : ∀ n (l : List α), l.length = n → C l := by
    intro n
    induction n with
    | zero => intro l h; rw [List.length_eq_zero_iff] at h; subst h; exact h0
    | succ n ih =>
      intro l h
      rcases List.eq_nil_or_concat l with rfl | ⟨l', x, rfl⟩
      · cases h
      · rw [List.concat_eq_append] at h ⊢
        rw [List.length_append, List.length_singleton] at h
        exact hs l' x (ih l' (by omega))
  intro l; exact this _ l rfl
theorem evs_len (w : Nat) (env : Int → Int) (ps : List Part) : (evs w env ps).length = ps.length := by
  refine snoc_ind (C := fun ps => (evs w env ps).length = ps.length) rfl (fun l x h => ?_) ps
  rw [evs_snoc, List.length_append, List.length_append, h]; rfl
theorem evs_app (w : Nat) (env : Int → Int) (ps : List Part) : ∀ qs : List Part, ∃ r, evs w env (ps ++ qs) = evs w env ps ++ r := by
  refine snoc_ind ⟨[], by simp⟩ (fun l x h => ?_)
  obtain ⟨r, h⟩ := h
  exact ⟨r ++ [evV w env (evs w env (ps ++ l)) x], by rw [← List.append_assoc, evs_snoc, h, List.append_assoc]⟩
theorem evAt_pre {w : Nat} {env : Int → Int} {ps qs : List Part} (h : ps <+: qs) {k : Nat} (hk : k < ps.length) : evAt w env qs k = evAt w env ps k := by
  obtain ⟨t, rfl⟩ := h
  obtain ⟨r, e⟩ := evs_app w env ps t
  unfold evAt
  rw [e, List.getD_eq_getElem?_getD, List.getD_eq_getElem?_getD, List.getElem?_append_left (by rw [evs_len]; exact hk)]
theorem evAt_eq {w : Nat} {env : Int → Int} {ps : List Part} (wf : WF ps) {k : Nat} {p : Part} (hp : ps[k]? = some p) :
    evAt w env ps k = match p with | .num v => v | .get i => env i | .op o a b => opI w o (evAt w env ps a) (evAt w env ps b) := by
  have hk := (List.getElem?_eq_some_iff.mp hp).1
  have e1 : ps = ps.take (k + 1) ++ ps.drop (k + 1) := (List.take_append_drop _ _).symm
  have et : ps.take (k + 1) = ps.take k ++ [p] := by rw [List.take_add_one, hp]; rfl
  have pre : ps.take k ++ [p] <+: ps := ⟨ps.drop (k + 1), by rw [← et]; exact List.take_append_drop _ _⟩
  have pre0 : ps.take k <+: ps := List.take_prefix _ _
  have hl : (ps.take k).length = k := by rw [List.length_take]; omega
  rw [evAt_pre pre (by rw [List.length_append, hl]; simp)]
  unfold evAt
  rw [evs_snoc, List.getD_eq_getElem?_getD, List.getElem?_append_right (by rw [evs_len, hl]; exact Nat.le_refl _), evs_len, hl, Nat.sub_self]
  cases p with
  | num v => rfl
  | get i => rfl
  | op o a b =>
    have hab := wf _ _ _ _ hp
    show opI w o (evAt w env (ps.take k) a) (evAt w env (ps.take k) b) = opI w o (evAt w env ps a) (evAt w env ps b)
    rw [evAt_pre pre0 (by omega), evAt_pre pre0 (by omega)]
/-! ### a term made again in another pool -/
def look (m : List (Nat × Nat)) (k : Nat) : Nat := ((m.find? fun x => decide (x.1 = k)).map (·.2)).getD 0
def dm (m : List (Nat × Nat)) : List (Key × V) := m.map fun (x : Nat × Nat) => (Sum.inl ((x.1 : Nat) : Int), V.int ((x.2 : Nat) : Int))
theorem dm_len (m : List (Nat × Nat)) : (dm m).length = m.length := by unfold dm; simp
theorem valV_dm (k : Nat) : ∀ m : List (Nat × Nat), valV (dm m) (Sum.inl (k : Int)) = if k ∈ m.map (·.1) then some (.int ((look m k : Nat) : Int)) else none
  | [] => rfl
  | x :: m => by
    have ih := valV_dm k m
    unfold dm at ih ⊢
    rw [List.map_cons, List.map_cons]
    by_cases e : x.1 = k
    · rw [valV_pos (by show Sum.inl ((x.1 : Nat) : Int) = Sum.inl (k : Int); rw [e]), if_pos (by rw [e]; exact List.mem_cons_self)]
      unfold look; rw [List.find?_cons, decide_eq_true e]; rfl
    · rw [valV_neg (fun z => e (by have := Sum.inl.inj z; exact Int.ofNat.inj this)), ih]
      have el : look (x :: m) k = look m k := by unfold look; rw [List.find?_cons, decide_eq_false e]
      rw [el]
      by_cases h : k ∈ m.map (·.1)
      · rw [if_pos h, if_pos (List.mem_cons_of_mem _ h)]
      · rw [if_neg h, if_neg (fun z => h ((List.mem_cons.mp z).resolve_left (fun y => e y.symm)))]
theorem dm_put {m : List (Nat × Nat)} {k v : Nat} (h : k ∉ m.map (·.1)) : putK (dm m) (Sum.inl (k : Int)) (.int (v : Int)) = dm (m ++ [(k, v)]) := by
  rw [putK_new _ (by rw [valV_dm, if_neg h])]; unfold dm; simp
theorem look_mem {m : List (Nat × Nat)} {k : Nat} (h : k ∈ m.map (·.1)) : (k, look m k) ∈ m := by
  induction m with
  | nil => simp at h
  | cons x m ih =>
    by_cases e : x.1 = k
    · have : look (x :: m) k = x.2 := by unfold look; rw [List.find?_cons, decide_eq_true e]; rfl
      rw [this, ← e]; exact List.mem_cons_self
    · have el : look (x :: m) k = look m k := by unfold look; rw [List.find?_cons, decide_eq_false e]
      rw [el]
      exact List.mem_cons_of_mem _ (ih ((List.mem_cons.mp h).resolve_left (fun y => e y.symm)))
theorem look_snoc_old {m : List (Nat × Nat)} {k : Nat} (x : Nat × Nat) (h : k ∈ m.map (·.1)) : look (m ++ [x]) k = look m k := by
  induction m with
  | nil => simp at h
  | cons y m ih =>
    by_cases e : y.1 = k
    · unfold look; rw [List.cons_append, List.find?_cons, List.find?_cons, decide_eq_true e]
    · have := ih ((List.mem_cons.mp h).resolve_left (fun z => e z.symm))
      unfold look at this ⊢; rw [List.cons_append, List.find?_cons, List.find?_cons, decide_eq_false e]; exact this
theorem look_snoc_new {m : List (Nat × Nat)} {k v : Nat} (h : k ∉ m.map (·.1)) : look (m ++ [(k, v)]) k = v := by
  induction m with
  | nil => unfold look; simp
  | cons y m ih =>
    have e : ¬ y.1 = k := fun e => h (by rw [← e]; exact List.mem_cons_self)
    have := ih (fun z => h (List.mem_cons_of_mem _ z))
    unfold look at this ⊢; rw [List.cons_append, List.find?_cons, decide_eq_false e]; exact this
def cstepR (w2 : Nat) (ps : List Part) (st : List Part × List (Nat × Nat)) (k : Nat) : Nat × List Part := match ps[k]? with
  | some (.op o a b) => mApply w2 st.1 o (look st.2 a) (look st.2 b)
  | some (.get i) => mk st.1 (.get i)
  | some (.num v) => mk st.1 (.num (v % 2 ^ w2))
  | none => (0, st.1)
def cstep (w2 : Nat) (ps : List Part) (st : List Part × List (Nat × Nat)) (k : Nat) : List Part × List (Nat × Nat) := ((cstepR w2 ps st k).2, st.2 ++ [(k, (cstepR w2 ps st k).1)])
def mCarry (w2 : Nat) (ps : List Part) (ks : List Nat) (qs : List Part) : List Part × List (Nat × Nat) := ks.foldl (cstep w2 ps) (qs, [])
/-- what holds behind the numbers done -/
structure CInv (w2 : Nat) (ps qs : List Part) (done : List Nat) (st : List Part × List (Nat × Nat)) : Prop where
  keys : st.2.map (fun (x : Nat × Nat) => x.1) = done
  lt : ∀ x : Nat × Nat, x ∈ st.2 → x.2 < st.1.length
  len : st.1.length ≤ qs.length + done.length
  ok : Ok w2 st.1
  pre : qs <+: st.1
theorem CInv.look {w2 : Nat} {ps qs : List Part} {done : List Nat} {st : List Part × List (Nat × Nat)} (c : CInv w2 ps qs done st) {a : Nat} (h : a ∈ done) : My.look st.2 a < st.1.length :=
  c.lt _ (look_mem (by rw [c.keys]; exact h))
theorem CInv.start {w2 : Nat} {ps qs : List Part} (h : Ok w2 qs) : CInv w2 ps qs [] (qs, []) := ⟨rfl, fun _ m => by simp at m, Nat.le_refl _, h, List.prefix_refl _⟩
theorem CInv.step {w2 : Nat} (h1 : 1 ≤ w2) {ps qs : List Part} {done : List Nat} {st : List Part × List (Nat × Nat)} {k : Nat} {p : Part} (c : CInv w2 ps qs done st) (hg : GetOk ps) (hp : ps[k]? = some p)
    (hab : ∀ o a b, p = Part.op o a b → a ∈ done ∧ b ∈ done) : CInv w2 ps qs (done ++ [k]) (cstep w2 ps st k) := by
  have key : (cstepR w2 ps st k).1 < (cstepR w2 ps st k).2.length ∧ (cstepR w2 ps st k).2.length ≤ st.1.length + 1 ∧ Ok w2 (cstepR w2 ps st k).2 ∧ st.1 <+: (cstepR w2 ps st k).2 := by
    unfold cstepR
    rw [hp]
    cases p with
    | num v => exact ⟨mk_lt _ _, mk_len _ _, ok_mk c.ok trivial ⟨Int.emod_nonneg _ (by have := pow_pos' w2; omega), Int.emod_lt_of_pos _ (pow_pos' w2)⟩, mk_pre _ _⟩
    | get i => exact ⟨mk_lt _ _, mk_len _ _, ok_mk c.ok trivial (hg _ _ hp), mk_pre _ _⟩
    | op o a b =>
      obtain ⟨ha, hb⟩ := hab o a b rfl
      exact ⟨mApply_lt (c.look ha) (c.look hb), mApply_len _ _ _ _ _, ok_mApply h1 c.ok (c.look ha) (c.look hb), mApply_pre _ _ _ _ _⟩
  refine ⟨?_, fun x hx => ?_, ?_, key.2.2.1, c.pre.trans key.2.2.2⟩
  · show (st.2 ++ [(k, (cstepR w2 ps st k).1)]).map (fun (x : Nat × Nat) => x.1) = _
    rw [List.map_append, c.keys]; rfl
  · rcases List.mem_append.mp hx with hx | hx
    · have := c.lt x hx
      have := key.2.2.2.length_le
      show x.2 < (cstepR w2 ps st k).2.length
      omega
    · simp at hx; subst hx; exact key.1
  · show (cstepR w2 ps st k).2.length ≤ _
    have := c.len
    rw [List.length_append, List.length_singleton]; omega
theorem asc_take {ks : List Nat} (h : ks.Pairwise (· < ·)) {i k z : Nat} (hk : ks[i]? = some k) (hz : z ∈ ks) (hzk : z < k) : z ∈ ks.take i := by
  obtain ⟨j, hj, rfl⟩ := List.getElem_of_mem hz
  have hi := (List.getElem?_eq_some_iff.mp hk).1
  have ek := (List.getElem?_eq_some_iff.mp hk).2
  by_cases hji : j < i
  · exact List.mem_take_iff_getElem.mpr ⟨j, by omega, rfl⟩
  · exfalso
    by_cases e : j = i
    · subst e; omega
    · have := List.pairwise_iff_getElem.mp h i j hi hj (by omega)
      omega
end My

/-! R4 -/
namespace My
open PySem L2
def dv (f : Nat → Int) (l : List Nat) : List (Key × V) := l.map fun (k : Nat) => (Sum.inl ((k : Nat) : Int), V.int (f k))
theorem dv_len (f : Nat → Int) (l : List Nat) : (dv f l).length = l.length := by unfold dv; simp
theorem valV_dv (f : Nat → Int) (k : Nat) : ∀ l : List Nat, valV (dv f l) (Sum.inl (k : Int)) = if k ∈ l then some (.int (f k)) else none
  | [] => rfl
  | j :: l => by
    have ih := valV_dv f k l
    unfold dv at ih ⊢
    rw [List.map_cons]
    by_cases e : j = k
    · subst e
      rw [valV_pos rfl, if_pos List.mem_cons_self]
    · rw [valV_neg (fun z => e (by have := Sum.inl.inj z; exact Int.ofNat.inj this)), ih]
      by_cases m : k ∈ l
      · rw [if_pos m, if_pos (List.mem_cons_of_mem _ m)]
      · rw [if_neg m, if_neg (fun z => m ((List.mem_cons.mp z).resolve_left (fun y => e y.symm)))]
theorem dv_put {f : Nat → Int} {l : List Nat} {k : Nat} (h : k ∉ l) : putK (dv f l) (Sum.inl (k : Int)) (.int (f k)) = dv f (l ++ [k]) := by
  rw [putK_new _ (by rw [valV_dv, if_neg h])]; unfold dv; simp
theorem not_in_take {ks : List Nat} (h : ks.Pairwise (· < ·)) {j k : Nat} (hk : ks[j]? = some k) : k ∉ ks.take j := by
  intro hm
  obtain ⟨j', hj', e⟩ := List.mem_take_iff_getElem.mp hm
  have hjl := (List.getElem?_eq_some_iff.mp hk).1
  have ejk := (List.getElem?_eq_some_iff.mp hk).2
  have := List.pairwise_iff_getElem.mp h j' j (by omega) hjl (by omega)
  omega
theorem take_snoc {α : Type} {l : List α} {j : Nat} {x : α} (h : l[j]? = some x) : l.take (j + 1) = l.take j ++ [x] := by rw [List.take_add_one, h]; rfl
def envOf (ws : List Int) : Int → Int := fun g => ws.getD g.toNat 0
end My

/-! R5 -/
namespace My
open PySem L2
/-! ### parts compared -/
def Part.pd : Part → PyData
  | .num v => .tuple [.str "num", .int v] | .get i => .tuple [.str "get", .int i] | .op o a b => .tuple [.str o.s, .int (a : Nat), .int (b : Nat)]
theorem dp_part {K : PySem.W.Frag} {H : Hp} {t : Addr} {p : Part} (h : H t = some (.tup p.vals)) : Dp K H (.ref t) p.pd := by
  cases p with
  | num v => exact .tup (SqT.of h) (.cons (.str _) (.cons (.int _) .nil))
  | get v => exact .tup (SqT.of h) (.cons (.str _) (.cons (.int _) .nil))
  | op o a b => exact .tup (SqT.of h) (.cons (.str _) (.cons (.int _) (.cons (.int _) .nil)))
theorem shaped_part (p : Part) : SeqAt.shaped p.pd = true := by
  have e1 : PyData.strOk (Str.ofString "num") = true := by decide +kernel
  have e2 : PyData.strOk (Str.ofString "get") = true := by decide +kernel
  have e3 : ∀ o : Op, PyData.strOk o.s = true := by intro o; cases o <;> decide +kernel
  cases p <;> simp [SeqAt.shaped, Part.pd, PyData.canLay0, PyData.canLayAll0, PyData.depth, PyData.depthAll, e1, e2, e3]
theorem beq_ofs (o o' : Op) : (o.s == o'.s) = decide (o = o') := by cases o <;> cases o' <;> decide +kernel
theorem eqv_pd (p q : Part) : PyData.eqv p.pd q.pd = decide (p = q) := by
  have n1 : (("num" : Str) == "get") = false := by decide +kernel
  have n2 : (("get" : Str) == "num") = false := by decide +kernel
  have n3 : (("get" : Str) == "get") = true := by decide +kernel
  have n4 : (("num" : Str) == "num") = true := by decide +kernel
  have bi : ∀ a b : Int, (a == b) = decide (a = b) := fun a b => by by_cases e : a = b <;> simp [e]
  have dec : ∀ {A B : Prop} [Decidable A] [Decidable B], (A ↔ B) → decide A = decide B := fun h => by simp [h]
  cases p with
  | num v => cases q with
    | num w => simp only [Part.pd, PyData.eqv, PyData.eqvAll, n4, bi, Bool.true_and, Bool.and_true]; exact dec ⟨fun e => by rw [e], fun e => by injection e⟩
    | get w => simp only [Part.pd, PyData.eqv, PyData.eqvAll, n1, Bool.false_and]; simp
    | op o a b => simp only [Part.pd, PyData.eqv, PyData.eqvAll, Bool.and_false]; simp
  | get v => cases q with
    | num w => simp only [Part.pd, PyData.eqv, PyData.eqvAll, n2, Bool.false_and]; simp
    | get w => simp only [Part.pd, PyData.eqv, PyData.eqvAll, n3, bi, Bool.true_and, Bool.and_true]; exact dec ⟨fun e => by rw [e], fun e => by injection e⟩
    | op o a b => simp only [Part.pd, PyData.eqv, PyData.eqvAll, Bool.and_false]; simp
  | op o a b => cases q with
    | num w => simp only [Part.pd, PyData.eqv, PyData.eqvAll, Bool.and_false]; simp
    | get w => simp only [Part.pd, PyData.eqv, PyData.eqvAll, Bool.and_false]; simp
    | op o' a' b' =>
      simp only [Part.pd, PyData.eqv, PyData.eqvAll, beq_ofs, bi, Bool.and_true]
      by_cases e1 : o = o' <;> by_cases e2 : a = a' <;> by_cases e3 : b = b' <;> simp [e1, e2, e3]
      all_goals (first | (intro z; omega) | omega | skip)
theorem eqT {K : PySem.W.Frag} {H : Hp} {t u : Addr} {p q : Part} {Q : VK} (ht : H t = some (.tup p.vals)) (hu : H u = some (.tup q.vals)) (h : Q (.bl (decide (p = q))) H) : rEqD K (.ref t) (.ref u) H Q :=
  ⟨p.pd, q.pd, dp_part ht, dp_part hu, shaped_part p, shaped_part q, by rw [eqv_pd]; exact h⟩
theorem idxOf_le {a : Part} : ∀ {l : List Part} {i : Nat}, l[i]? = some a → l.idxOf a ≤ i
  | [], i, h => by simp at h
  | x :: l, 0, h => by
    have e : x = a := Option.some.inj h
    subst e; simp
  | x :: l, i + 1, h => by
    have ih := idxOf_le (l := l) (i := i) (a := a) h
    rw [List.idxOf_cons]
    cases (x == a) <;> simp <;> omega
theorem word_iff (p : Part) (v : Int) : p.word = some v ↔ p = .num v := by cases p <;> simp [Part.word]
end My

/-! R6 -/
namespace My
open PySem L2
theorem ixN_nat {n a : Nat} (h : a < n) : ixN n (a : Int) = some a := by
  unfold ixN
  rw [if_pos (by omega), if_pos (by omega)]; rfl
/-! ### marks, from the back -/
structure MInv (ps : List Part) (i : Nat) (m : List Bool) (done : Nat) : Prop where
  len : m.length = ps.length
  rch : ∀ k, m[k]? = some true → Reach ps i k
  root : m[i]? = some true
  clo : ∀ k o a b, ps.length ≤ k + done → m[k]? = some true → ps[k]? = some (Part.op o a b) → m[a]? = some true ∧ m[b]? = some true
theorem set_mark {m : List Bool} {a k : Nat} (h : (m.set a true)[k]? = some true) : k = a ∨ m[k]? = some true := by
  rw [List.getElem?_set] at h
  split at h
  · rename_i e; exact .inl e.symm
  · exact .inr h
theorem set_mono {m : List Bool} {a k : Nat} (h : m[k]? = some true) : (m.set a true)[k]? = some true := by
  rw [List.getElem?_set]
  split
  · rename_i e; subst e
    rw [if_pos (List.getElem?_eq_some_iff.mp h).1]
  · exact h
theorem set_self {m : List Bool} {a : Nat} (h : a < m.length) : (m.set a true)[a]? = some true := by
  rw [List.getElem?_set, if_pos rfl, if_pos h]
theorem MInv.start {ps : List Part} {i : Nat} (hi : i < ps.length) : MInv ps i ((List.replicate ps.length false).set i true) 0 := by
  refine ⟨by simp, fun k h => ?_, set_self (by simpa using hi), fun k o a b hk h e => ?_⟩
  · rcases set_mark h with rfl | h
    · exact .self
    · rw [List.getElem?_replicate] at h
      split at h <;> cases h
  · have := (List.getElem?_eq_some_iff.mp e).1; omega
theorem MInv.skip {ps : List Part} {i at_ done : Nat} {m : List Bool} (h : MInv ps i m done) (e : at_ + done + 1 = ps.length) (no : m[at_]? = some true → ∀ o a b, ps[at_]? ≠ some (Part.op o a b)) : MInv ps i m (done + 1) :=
  ⟨h.len, h.rch, h.root, fun k o a b hk hm hp => by
    by_cases ek : k = at_
    · subst ek; exact absurd hp (no hm o a b)
    · exact h.clo k o a b (by omega) hm hp⟩
theorem MInv.mark {ps : List Part} {i at_ done : Nat} {m : List Bool} {o : Op} {a b : Nat} (h : MInv ps i m done) (wf : WF ps) (e : at_ + done + 1 = ps.length) (hm : m[at_]? = some true) (hp : ps[at_]? = some (Part.op o a b)) : MInv ps i ((m.set a true).set b true) (done + 1) := by
  have ab := wf _ _ _ _ hp
  have hr := h.rch _ hm
  refine ⟨by simp [h.len], fun k hk => ?_, set_mono (set_mono h.root), fun k o' a' b' hk hm' hp' => ?_⟩
  · rcases set_mark hk with rfl | hk
    · exact .right hr hp
    · rcases set_mark hk with rfl | hk
      · exact .left hr hp
      · exact h.rch _ hk
  · by_cases ek : k = at_
    · subst ek
      rw [hp] at hp'
      cases hp'
      exact ⟨set_mono (set_self (by rw [h.len]; omega)), set_self (by rw [List.length_set, h.len]; omega)⟩
    · have hk2 : m[k]? = some true := by
        rcases set_mark hm' with rfl | hm'
        · omega
        · rcases set_mark hm' with rfl | hm'
          · omega
          · exact hm'
      have := h.clo k o' a' b' (by omega) hk2 hp'
      exact ⟨set_mono (set_mono this.1), set_mono (set_mono this.2)⟩
def markL (m : List Bool) (j : Nat) : List Nat := (List.range j).filter fun k => decide (m[k]? = some true)
theorem markL_yes {m : List Bool} {j : Nat} (h : m[j]? = some true) : markL m (j + 1) = markL m j ++ [j] := by
  unfold markL; rw [List.range_succ, List.filter_append]; simp [h]
theorem markL_no {m : List Bool} {j : Nat} (h : ¬ m[j]? = some true) : markL m (j + 1) = markL m j := by
  unfold markL; rw [List.range_succ, List.filter_append]; simp [h]
theorem markL_len (m : List Bool) (j : Nat) : (markL m j).length ≤ j := by
  unfold markL; exact Nat.le_trans (List.length_filter_le _ _) (by simp)
theorem MInv.done {ps : List Part} {i : Nat} {m : List Bool} (h : MInv ps i m ps.length) (wf : WF ps) (hi : i < ps.length) : ReachL ps i (markL m ps.length) := by
  refine ⟨List.Pairwise.filter _ List.pairwise_lt_range, fun k => ?_⟩
  have back : Reach ps i k → m[k]? = some true := by
    intro r
    induction r with
    | self => exact h.root
    | left r e ih => exact (h.clo _ _ _ _ (by omega) ih e).1
    | right r e ih => exact (h.clo _ _ _ _ (by omega) ih e).2
  unfold markL
  rw [List.mem_filter, List.mem_range]
  exact ⟨fun z => h.rch k (of_decide_eq_true z.2), fun r => ⟨by have := r.le wf; omega, decide_eq_true (back r)⟩⟩
end My

/-! R7 -/
namespace My
open PySem L2
theorem dpAll_parts {K : PySem.W.Frag} {H : Hp} : ∀ (ts : List Addr) (ps : List Part), ts.length = ps.length → (∀ (i : Nat) (p : Part), ps[i]? = some p → ∃ t, ts[i]? = some t ∧ H t = some (.tup p.vals)) → DpAll K H (ts.map V.ref) (ps.map Part.pd)
  | [], [], _, _ => .nil
  | [], p :: ps, h, _ => by cases h
  | t :: ts, [], h, _ => by cases h
  | t :: ts, p :: ps, h, g => by
    obtain ⟨t', e, ht⟩ := g 0 p rfl
    cases e
    exact .cons (dp_part ht) (dpAll_parts ts ps (by simpa using h) fun i q e => g (i + 1) q e)
theorem dp_list {K : PySem.W.Frag} {H : Hp} {l : Addr} {ps : List Part} (h : LAt H l ps) : Dp K H (.ref l) (.list (ps.map Part.pd)) := by
  obtain ⟨ts, h1, h2, h3⟩ := h
  exact .lst (SqL.of h1) (dpAll_parts ts ps h2 h3)
theorem depth_part (p : Part) : p.pd.depth ≤ 2 := by cases p <;> simp [Part.pd, PyData.depth, PyData.depthAll]
theorem lay_part (p : Part) : p.pd.canLay0 = true := by
  have := shaped_part p
  unfold SeqAt.shaped at this
  simp at this; exact this.1
theorem depthAll_parts : ∀ ps : List Part, PyData.depthAll (ps.map Part.pd) ≤ 3
  | [] => by simp [PyData.depthAll]
  | p :: ps => by
    have := depthAll_parts ps
    have := depth_part p
    simp [PyData.depthAll]; omega
theorem layAll_parts : ∀ ps : List Part, PyData.canLayAll0 (ps.map Part.pd) = true
  | [] => by simp [PyData.canLayAll0]
  | p :: ps => by
    simp [PyData.canLayAll0, layAll_parts ps, lay_part p]
theorem shaped_list (ps : List Part) : SeqAt.shaped (.list (ps.map Part.pd)) = true := by
  have h1 := layAll_parts ps
  have h2 := depthAll_parts ps
  simp [SeqAt.shaped, PyData.canLay0, PyData.depth, h1]; omega
theorem eqvAll_parts : ∀ ps : List Part, PyData.eqvAll (ps.map Part.pd) (ps.map Part.pd) = true
  | [] => by simp [PyData.eqvAll]
  | p :: ps => by simp [PyData.eqvAll, eqv_pd, eqvAll_parts ps]
theorem eqL {K : PySem.W.Frag} {H : Hp} {l m : Addr} {ps : List Part} {Q : VK} (hl : LAt H l ps) (hm : LAt H m ps) (h : Q (.bl true) H) : rEqD K (.ref l) (.ref m) H Q :=
  ⟨_, _, dp_list hl, dp_list hm, shaped_list ps, shaped_list ps, by
    have : PyData.eqv (.list (ps.map Part.pd)) (.list (ps.map Part.pd)) = true := by simp [PyData.eqv, eqvAll_parts]
    rw [this]; exact h⟩
end My

/-! RS -/
/-! what several parts are made of -/
namespace My
open PySem L2
def ReachS (ps : List Part) (S : List Nat) (k : Nat) : Prop := ∃ i ∈ S, Reach ps i k
theorem ReachS.self {ps : List Part} {S : List Nat} {i : Nat} (h : i ∈ S) : ReachS ps S i := ⟨i, h, .self⟩
theorem ReachS.left {ps : List Part} {S : List Nat} {k : Nat} {o : Op} {a b : Nat} (h : ReachS ps S k) (e : ps[k]? = some (Part.op o a b)) : ReachS ps S a := by
  obtain ⟨i, m, r⟩ := h; exact ⟨i, m, .left r e⟩
theorem ReachS.right {ps : List Part} {S : List Nat} {k : Nat} {o : Op} {a b : Nat} (h : ReachS ps S k) (e : ps[k]? = some (Part.op o a b)) : ReachS ps S b := by
  obtain ⟨i, m, r⟩ := h; exact ⟨i, m, .right r e⟩
theorem ReachS.lt {ps : List Part} {S : List Nat} {k N : Nat} (wf : WF ps) (hS : ∀ i ∈ S, i < N) (h : ReachS ps S k) : k < N := by
  obtain ⟨i, m, r⟩ := h
  have := r.le wf; have := hS i m; omega
structure ReachLS (ps : List Part) (S : List Nat) (ks : List Nat) : Prop where
  asc : ks.Pairwise (· < ·)
  mem : ∀ k, k ∈ ks ↔ ReachS ps S k
theorem ReachLS.uniq {ps : List Part} {S : List Nat} {ks ls : List Nat} (h : ReachLS ps S ks) (h' : ReachLS ps S ls) : ks = ls := asc_ext h.asc h'.asc fun k => (h.mem k).trans (h'.mem k).symm
theorem ReachLS.same {ps : List Part} {S S' : List Nat} {ks : List Nat} (h : ReachLS ps S ks) (e : ∀ i, i ∈ S ↔ i ∈ S') : ReachLS ps S' ks :=
  ⟨h.asc, fun k => (h.mem k).trans ⟨fun ⟨i, m, r⟩ => ⟨i, (e i).mp m, r⟩, fun ⟨i, m, r⟩ => ⟨i, (e i).mpr m, r⟩⟩⟩
theorem ReachLS.one {ps : List Part} {i : Nat} {ks : List Nat} (h : ReachLS ps [i] ks) : ReachL ps i ks :=
  ⟨h.asc, fun k => (h.mem k).trans ⟨fun ⟨j, m, r⟩ => by simp at m; subst m; exact r, fun r => ⟨i, by simp, r⟩⟩⟩
theorem ReachL.many {ps : List Part} {i : Nat} {ks : List Nat} (h : ReachL ps i ks) : ReachLS ps [i] ks :=
  ⟨h.asc, fun k => (h.mem k).trans ⟨fun r => ⟨i, by simp, r⟩, fun ⟨j, m, r⟩ => by simp at m; subst m; exact r⟩⟩
theorem ReachLS.len {ps : List Part} {S ks : List Nat} (wf : WF ps) (hS : ∀ i ∈ S, i < ps.length) (h : ReachLS ps S ks) : ks.length ≤ ps.length :=
  nodup_lt (h.asc.imp fun q => Nat.ne_of_lt q) fun k hk => ((h.mem k).mp hk).lt wf hS
theorem dk_in {F : List Nat} {k : Nat} (h : k ∈ F) : putK (dk F) (Sum.inl (k : Int)) (.bl true) = dk F := by
  unfold putK dk
  rw [if_pos (List.any_eq_true.mpr ⟨(Sum.inl ((k : Nat) : Int), V.bl true), List.mem_map.mpr ⟨k, h, rfl⟩, by simp⟩), List.map_map]
  refine List.map_congr_left fun j _ => ?_
  show (if (Sum.inl ((j : Nat) : Int) : Key) = Sum.inl (k : Int) then (Sum.inl ((j : Nat) : Int), V.bl true) else (Sum.inl ((j : Nat) : Int), V.bl true)) = _
  split <;> rfl
def addS (F : List Nat) (k : Nat) : List Nat := if k ∈ F then F else F ++ [k]
theorem dk_add (F : List Nat) (k : Nat) : putK (dk F) (Sum.inl (k : Int)) (.bl true) = dk (addS F k) := by
  unfold addS; split
  · rename_i h; exact dk_in h
  · rename_i h; exact dk_put h
structure Seeds (S : List Nat) (F : List Nat) : Prop where
  nd : F.Nodup
  sub : ∀ k ∈ F, k ∈ S
  all : ∀ k ∈ S, k ∈ F
theorem seeds_nil : Seeds [] [] := ⟨by simp, by simp, by simp⟩
theorem Seeds.add {S F : List Nat} (h : Seeds S F) (k : Nat) : Seeds (S ++ [k]) (addS F k) := by
  unfold addS; split
  · rename_i m
    refine ⟨h.nd, fun j hj => List.mem_append_left _ (h.sub j hj), fun j hj => ?_⟩
    rcases List.mem_append.mp hj with hj | hj
    · exact h.all j hj
    · simp at hj; subst hj; exact m
  · rename_i m
    refine ⟨List.nodup_append.mpr ⟨h.nd, by simp, by intro a ha b hb; simp at hb; subst hb; exact fun e => m (e ▸ ha)⟩, fun j hj => ?_, fun j hj => ?_⟩
    · rcases List.mem_append.mp hj with hj | hj
      · exact List.mem_append_left _ (h.sub j hj)
      · exact List.mem_append_right _ hj
    · rcases List.mem_append.mp hj with hj | hj
      · exact List.mem_append_left _ (h.all j hj)
      · exact List.mem_append_right _ hj
/-- found and waiting -/
structure FWS (ps : List Part) (S F W : List Nat) : Prop where
  nd : F.Nodup
  sub : ∀ k ∈ W, k ∈ F
  rch : ∀ k ∈ F, ReachS ps S k
  all : ∀ k ∈ S, k ∈ F
  clo : ∀ k ∈ F, k ∉ W → ∀ (o : Op) (a b : Nat), ps[k]? = some (Part.op o a b) → a ∈ F ∧ b ∈ F
structure MidS (ps : List Part) (S : List Nat) (s : List Nat × List Nat) (j : Nat) : Prop where
  nd : s.1.Nodup
  sub : ∀ k ∈ s.2, k ∈ s.1
  rch : ∀ k ∈ s.1, ReachS ps S k
  all : ∀ k ∈ S, k ∈ s.1
  clo : ∀ k ∈ s.1, k ∉ s.2 → k ≠ j → ∀ (o : Op) (a b : Nat), ps[k]? = some (Part.op o a b) → a ∈ s.1 ∧ b ∈ s.1
theorem Seeds.fw {ps : List Part} {S F : List Nat} (h : Seeds S F) : FWS ps S F F := ⟨h.nd, fun _ m => m, fun k m => .self (h.sub k m), h.all, fun k m n => absurd m n⟩
theorem MidS.add {ps : List Part} {S : List Nat} {s : List Nat × List Nat} {j k : Nat} (m : MidS ps S s j) (r : ReachS ps S k) : MidS ps S (addN s k) j := by
  by_cases h : k ∈ s.1
  · rw [addN_in h]; exact m
  · rw [addN_new h]
    refine ⟨List.nodup_append.mpr ⟨m.nd, by simp, by intro a ha b hb; simp at hb; subst hb; exact fun e => h (e ▸ ha)⟩, fun z hz => ?_, fun z hz => ?_, fun z hz => List.mem_append_left _ (m.all z hz), fun z hz hn hj o a b e => ?_⟩
    · exact (List.mem_append.mp hz).elim (fun hz => List.mem_append_left _ (m.sub z hz)) fun hz => List.mem_append_right _ hz
    · rcases List.mem_append.mp hz with hz | hz
      · exact m.rch z hz
      · simp at hz; subst hz; exact r
    · rcases List.mem_append.mp hz with hz | hz
      · have := m.clo z hz (fun q => hn (List.mem_append_left _ q)) hj o a b e
        exact ⟨List.mem_append_left _ this.1, List.mem_append_left _ this.2⟩
      · exact absurd (List.mem_append_right _ hz) hn
theorem FWS.mid {ps : List Part} {S F W : List Nat} {j : Nat} (f : FWS ps S F (W ++ [j])) : MidS ps S (F, W) j :=
  ⟨f.nd, fun k m => f.sub k (List.mem_append_left _ m), f.rch, f.all, fun k hk hn hj o a b e => f.clo k hk (by simp [hn, hj]) o a b e⟩
theorem MidS.fw {ps : List Part} {S : List Nat} {s : List Nat × List Nat} {j : Nat} (m : MidS ps S s j) (h : ∀ (o : Op) (a b : Nat), ps[j]? = some (Part.op o a b) → a ∈ s.1 ∧ b ∈ s.1) : FWS ps S s.1 s.2 :=
  ⟨m.nd, m.sub, m.rch, m.all, fun k hk hn o a b e => by
    by_cases hj : k = j
    · subst hj; exact h o a b e
    · exact m.clo k hk hn hj o a b e⟩
end My

/-! P1 -/
namespace My
open PySem L2
def natL (pl : List Nat) : List V := pl.map fun (k : Nat) => V.int (k : Nat)
theorem natL_len (pl : List Nat) : (natL pl).length = pl.length := by unfold natL; simp
theorem natL_at {pl : List Nat} {a : Nat} (h : a < pl.length) : atI (natL pl) (a : Nat) = some (.int (pl.getD a 0 : Nat)) := by
  refine at_of (j := a) rfl ?_
  unfold natL
  rw [List.getElem?_map, List.getD_eq_getElem?_getD, List.getElem?_eq_getElem h]; rfl
theorem natL_get {pl : List Nat} {j : Nat} {x : V} (h : (natL pl)[j]? = some x) : ∃ k, pl[j]? = some k ∧ x = .int (k : Nat) := by
  unfold natL at h
  rw [List.getElem?_map] at h
  obtain ⟨k, e, rfl⟩ := Option.map_eq_some_iff.mp h
  exact ⟨k, e, rfl⟩
theorem natL_snoc (pl : List Nat) (k : Nat) : natL (pl ++ [k]) = natL pl ++ [.int (k : Nat)] := by unfold natL; rw [List.map_append]; rfl
theorem natL_take (pl : List Nat) (j : Nat) : (natL pl).take j = natL (pl.take j) := by unfold natL; rw [List.map_take]
theorem natL_inj : ∀ {a b : List Nat}, natL a = natL b → a = b
  | [], [], _ => rfl
  | [], _ :: _, h => by simp [natL] at h
  | _ :: _, [], h => by simp [natL] at h
  | x :: a, y :: b, h => by
    unfold natL at h
    rw [List.map_cons, List.map_cons] at h
    injection h with h1 h2
    injection h1 with h1
    rw [Int.ofNat.inj h1, natL_inj (a := a) (b := b) h2]
theorem dk_kV (F : List Nat) : (dk F).map (fun kv => kV kv.1) = natL F := by unfold dk natL; rw [List.map_map]; rfl
/-- what is found at the start -/
def fromS (S : List Nat) : List Nat := S.foldl addS []
theorem fromS_succ {S : List Nat} {j k : Nat} (h : S[j]? = some k) : fromS (S.take (j + 1)) = addS (fromS (S.take j)) k := by
  unfold fromS; rw [List.take_add_one, h, List.foldl_append]; rfl
theorem fromS_seeds (S : List Nat) : ∀ j, Seeds (S.take j) (fromS (S.take j))
  | 0 => by rw [List.take_zero]; exact seeds_nil
  | j + 1 => by
    cases h : S[j]? with
    | none =>
      have : S.length ≤ j := by simpa using h
      have ih := fromS_seeds S j
      rw [List.take_of_length_le this] at ih
      rw [List.take_of_length_le (by omega)]; exact ih
    | some k =>
      rw [fromS_succ h, List.take_add_one, h]
      exact (fromS_seeds S j).add k
/-- an ascending row of the numbers that were found -/
theorem asc_of {F : List Nat} {ys : List Int} (nd : F.Nodup) (h1 : ys.Perm (F.map fun k => ((k : Nat) : Int))) (h2 : ys.Pairwise (· ≤ ·)) : ∃ ks : List Nat, ys = ks.map (fun k => ((k : Nat) : Int)) ∧ ks.Pairwise (· < ·) ∧ ∀ z, z ∈ ks ↔ z ∈ F := by
  obtain ⟨ks, rfl⟩ : ∃ ks : List Nat, ys = ks.map (fun k => ((k : Nat) : Int)) := by
    refine ⟨ys.map Int.toNat, ?_⟩
    rw [List.map_map]
    conv => lhs; rw [← List.map_id ys]
    refine List.map_congr_left fun y hy => ?_
    have := (h1.mem_iff).mp hy
    rw [List.mem_map] at this
    obtain ⟨z, _, rfl⟩ := this
    rfl
  have hmem : ∀ z, z ∈ ks ↔ z ∈ F := fun z => by
    have e := h1.mem_iff (a := ((z : Nat) : Int))
    rw [List.mem_map, List.mem_map] at e
    constructor
    · intro m
      obtain ⟨z', m', e'⟩ := e.mp ⟨z, m, rfl⟩
      rwa [Int.ofNat.inj e'] at m'
    · intro m
      obtain ⟨z', m', e'⟩ := e.mpr ⟨z, m, rfl⟩
      rwa [Int.ofNat.inj e'] at m'
  have hnd : ks.Nodup := by
    have h1 : (ks.map fun k => ((k : Nat) : Int)).Nodup := h1.nodup_iff.mpr (List.pairwise_map.mpr (nd.imp fun h e => h (Int.ofNat.inj e)))
    exact (List.pairwise_map.mp h1).imp fun h e => h (by rw [e])
  refine ⟨ks, rfl, ?_, hmem⟩
  have h1 : ks.Pairwise (fun a b => ((a : Nat) : Int) ≤ b) := List.pairwise_map.mp h2
  exact (h1.and hnd).imp fun {a b} ⟨h1, h2⟩ => by omega
/-- the unknowns among some parts -/
def getAt (ps : List Part) (k : Nat) : Option Int := match ps[k]? with | some (.get g) => some g | _ => none
def getsOf (ps : List Part) (ks : List Nat) : List Int := ks.filterMap (getAt ps)
theorem getsOf_snoc (ps : List Part) (ks : List Nat) (k : Nat) : getsOf ps (ks ++ [k]) = getsOf ps ks ++ (getAt ps k).toList := by
  unfold getsOf; rw [List.filterMap_append]
  cases h : getAt ps k <;> simp [h]
theorem getAt_get {ps : List Part} {k : Nat} {g : Int} (h : ps[k]? = some (.get g)) : getAt ps k = some g := by unfold getAt; rw [h]
theorem getAt_num {ps : List Part} {k : Nat} {g : Int} (h : ps[k]? = some (.num g)) : getAt ps k = none := by unfold getAt; rw [h]
theorem getAt_op {ps : List Part} {k : Nat} {o : Op} {a b : Nat} (h : ps[k]? = some (.op o a b)) : getAt ps k = none := by unfold getAt; rw [h]
theorem mem_gets {ps : List Part} {ks : List Nat} {g : Int} (h : g ∈ getsOf ps ks) : ∃ k ∈ ks, ps[k]? = some (.get g) := by
  unfold getsOf at h
  obtain ⟨k, hk, e⟩ := List.mem_filterMap.mp h
  refine ⟨k, hk, ?_⟩
  unfold getAt at e
  split at e
  · rename_i e'; cases e; exact e'
  · cases e
theorem sorted_uniq : ∀ {xs ys : List Int}, xs.Perm ys → xs.Pairwise (· ≤ ·) → ys.Pairwise (· ≤ ·) → xs = ys
  | [], ys, h, _, _ => h.nil_eq
  | x :: xs, [], h, _, _ => absurd h.length_eq (by simp)
  | x :: xs, y :: ys, h, hx, hy => by
    obtain ⟨hx1, hx2⟩ := List.pairwise_cons.mp hx
    obtain ⟨hy1, hy2⟩ := List.pairwise_cons.mp hy
    have e : x = y := by
      have m1 : x ∈ y :: ys := h.mem_iff.mp List.mem_cons_self
      have m2 : y ∈ x :: xs := h.mem_iff.mpr List.mem_cons_self
      rcases List.mem_cons.mp m1 with e | m1
      · exact e
      · rcases List.mem_cons.mp m2 with e | m2
        · exact e.symm
        · have := hy1 _ m1; have := hx1 _ m2; omega
    subst e
    rw [sorted_uniq (h.cons_inv) hx2 hy2]
end My

/-! F -/
namespace My
open PySem L2
local macro_rules | `(tactic| walk_at "side") => `(tactic| first | with_reducible rfl | assumption | rfl | decide | omega | exact cpow1 (by omega) (by omega) | exact cdiv (by omega) (by omega) | exact two_pos _ | exact SqL.of (by assumption) | exact SqT.of (by assumption) | exact TyX.base (TyOf.int _) | exact TyX.base (TyOf.bl _) | exact TyX.base TyOf.non | exact scal_opt _ _ | exact k_ii | exact k_bi | exact k_ni | exact k_ib | exact k_bb | exact TyX.base (TyOf.lst (by assumption)) | exact k_ll | exact k_lt)
local macro_rules | `(tactic| walk_at "p") => `(tactic| repeat (first | refine And.intro (by walk_at "side") ?_ | apply Exists.intro | refine iteN (by assumption) ?_ | refine iteP (by assumption) ?_ | refine iteN (by decide) ?_ | refine iteP (by decide) ?_))

section
variable {P : Program} {w : World} {K : PySem.W.Frag} {mg : Str → Option Value} {base : Heap}
theorem yesT {σ : L2.St} {H : Hp} {Q : Bool → Hp → Prop} (h : Q true H) : tYes σ H Q := h
def goodR (n : Nat) (xs : List V) : Bool := xs.all (goodP n)
theorem of_goodR {n : Nat} : ∀ {xs : List V}, goodR n xs = true → ∃ S : List Nat, xs = natL S ∧ ∀ i ∈ S, i < n
  | [], _ => ⟨[], rfl, by simp⟩
  | x :: xs, h => by
    unfold goodR at h
    rw [List.all_cons, Bool.and_eq_true] at h
    obtain ⟨S, e, hS⟩ := of_goodR (xs := xs) h.2
    have h1 := h.1
    cases x with
    | int j =>
      have := of_decide_eq_true h1
      refine ⟨j.toNat :: S, ?_, fun i hi => ?_⟩
      · unfold natL at e ⊢
        rw [List.map_cons, e]
        congr 2; omega
      · rcases List.mem_cons.mp hi with rfl | hi
        · omega
        · exact hS i hi
    | _ => cases h1
theorem goodR_of {n : Nat} {S : List Nat} (h : ∀ i ∈ S, i < n) : goodR n (natL S) = true := by
  unfold goodR natL
  rw [List.all_map, List.all_eq_true]
  exact fun i hi => good_of (h i hi)
theorem plain_nat {S : List Nat} : ∀ x ∈ natL S, plainV x = true := fun x hx => by
  unfold natL at hx
  obtain ⟨k, _, rfl⟩ := List.mem_map.mp hx
  rfl
/-- a row of part numbers, or what is none -/
def RowIs (H : Hp) (v : V) (xs : List V) : Prop := ∃ q, v = .ref q ∧ Row H q xs ∧ (∀ x ∈ xs, plainV x = true) ∧ xs.length ≤ 4000
def sp_p_check_parts (T : Txt K mg) : Sp := fun vs H Q E => ∃ (a l d : Addr) (n : Nat) (ps : List Part) (v : V), vs = [.ref a, v] ∧ PoolAt T.C H a l d n ps ∧
  ((plainV v = true ∧ ∀ H', Same H H' → E (.ref T.C_BadPart) none H') ∨
   ∃ xs, RowIs H v xs ∧ (goodR ps.length xs = true → ∀ (t : Addr) (H' : Hp), Same H H' → H t = none → H' t = some (.tup xs) → Q (.ref t) H') ∧
     (¬ goodR ps.length xs = true → ∀ H', Same H H' → E (.ref T.C_BadPart) none H'))
theorem sp_p_check_parts_len {T : Txt K mg} {vs H Q E} (h : sp_p_check_parts T vs H Q E) : vs.length = 2 := by obtain ⟨_, _, _, _, _, _, rfl, _⟩ := h; rfl
theorem ok_p_check_parts (T : Txt K mg) : FnOk P w K mg base (L2.CX P w) 3 T.f_p_check_parts T.fd_p_check_parts ["self", "numbers"] (sp_p_check_parts T) := by
  have G_p_check_part := ok_p_check_part (P := P) (w := w) (base := base) T; have G_is_row := ok_is_row (P := P) (w := w) (base := base) T
  refine T.F_p_check_parts.okX sc_p_check_parts (fun vs H Q E h => sp_p_check_parts_len h) (fun cdv A outer s H vs Q E hr h => ?_)
  obtain ⟨a, l, d, n, ps, v, rfl, hp, h⟩ := h
  obtain ⟨dx, ho⟩ := id hp.ob
  have sz : sizeLine = 16777216 := sizeLine_eq
  refine ⟨_, (pss_cons (ps_if (pt_not (pt_val (pe_call G_is_row (hr.mono (by decide)) rfl T.g_is_row T.F_is_row.kp T.b_is_row .nil pass0 (pa_cons (pv 1) pa_nil))))
        (pss_one (ps_raise rfl (takes_of rfl rfl rfl rfl) (pmk_0 PySem.F.excBase_Exception T.x_BadPart T.g_BadPart T.k_BadPart (raises_own T.sb_BadPart T.ty_BadPart) (by rfl))))
        pss_nil)
       (pss_one (ps_ret (pe_callTy call_tupleL (by rfl) T.n_tuple (by decide +kernel) (pa_cons (pe_lcX (own := [("number", 2)]) (g := gName 2) rfl sc_p_check_parts.nd rfl rfl (takes_of rfl rfl rfl rfl) (pi_seq (i := 1) rfl (Or.inl rfl)) (blkOk_by (N := ["self", "numbers", "number"]) (sc := defScope s_p_check_parts) (by decide +kernel)) (fun _ _ _ _ _ => by exact pg_name (i := 2) sc_p_check_parts.nd rfl (Or.inl rfl)) (fun _ _ _ _ _ xe hp => by exact (pe_meth (pv 0) T.cl T.m_p_check_part G_p_check_part hr T.b_p_check_part .nil hp (pa_cons (pv 2) pa_nil)))) pa_nil))))), ?_⟩
  rcases h with ⟨hv, k⟩ | ⟨xs, ⟨q, rfl, hr, hx, hz⟩, k1, k2⟩
  · exact ⟨_, rfl, .inr ⟨v, rfl, hv, fun H1 s1 => ⟨_, rfl, iteP rfl (k H1 s1)⟩⟩⟩
  refine ⟨_, rfl, .inl ⟨q, xs, rfl, hr, fun H1 s1 => ⟨_, rfl, iteN (by decide) ?_⟩⟩⟩
  have hr1 := hr.news s1
  refine ⟨q, xs, rfl, hr1, fun J G w hG D hD => ?_⟩
  refine lc_it w (fun j H2 => Same H1 H2 ∧ H2 D = some (.lst (xs.take j)) ∧ (xs.take j).all (goodP ps.length) = true) ⟨same_new hD, upd_same, rfl⟩ (fun j H2 _ ⟨s2, _⟩ => hG _ (hr1.eq s2)) ?_ ?_
  · rintro j x _ H2 hj ⟨s2, hD2, g2⟩ ⟨rfl, hxj⟩
    refine ⟨rfl, yesT (iteP rfl ?_)⟩
    have h12 := s1.trans s2
    refine ⟨_, rfl, a, dx, _, rfl, h12 _ _ ho, no_meth (by decide +kernel), _, rfl, a, l, d, n, ps, x, rfl, hp.news h12, hx x (List.mem_of_getElem? hxj), fun g => ?_, fun g => ?_⟩
    · refine ⟨_, hD2, by rw [List.length_take]; omega, fun b o e => ?_, ?_, ?_⟩
      · rw [upd_ne (ne_of_none e hD)]; exact s2 _ _ e
      · rw [upd_same, List.take_add_one, hxj]; rfl
      · rw [List.take_add_one, hxj, List.all_append, g2]; simp [g]
    · exact k2 (fun z => g (List.all_eq_true.mp z x (List.mem_of_getElem? hxj))) H2 h12
  · rintro H2 ⟨s2, hD2, g2⟩
    rw [List.take_length] at hD2 g2
    refine ⟨D, _, rfl, SqL.of hD2, fun t ht => ?_⟩
    exact k1 g2 t _ ((s1.trans s2).trans (same_new ht)) ((s1.trans s2).free ht) upd_same
def sp_p_reached_by (T : Txt K mg) : Sp := fun vs H Q E => ∃ (a l d : Addr) (n : Nat) (ps : List Part) (v : V), vs = [.ref a, v] ∧ PoolAt T.C H a l d n ps ∧ WF ps ∧ ps.length ≤ 4000 ∧
  ((plainV v = true ∧ ∀ H', Same H H' → E (.ref T.C_BadPart) none H') ∨
   ∃ xs, RowIs H v xs ∧ (∀ (S : List Nat), xs = natL S → (∀ i ∈ S, i < ps.length) → ∀ (t : Addr) (H' : Hp) (ks : List Nat), ReachLS ps S ks → Same H H' → H t = none → H' t = some (.tup (natL ks)) → Q (.ref t) H') ∧
     (¬ goodR ps.length xs = true → ∀ H', Same H H' → E (.ref T.C_BadPart) none H'))
theorem sp_p_reached_by_len {T : Txt K mg} {vs H Q E} (h : sp_p_reached_by T vs H Q E) : vs.length = 2 := by obtain ⟨_, _, _, _, _, _, rfl, _⟩ := h; rfl
theorem ok_p_reached_by (T : Txt K mg) : FnOk P w K mg base (L2.CX P w) 4 T.f_p_reached_by T.fd_p_reached_by ["self", "numbers"] (sp_p_reached_by T) := by
  have G_p_check_parts := ok_p_check_parts (P := P) (w := w) (base := base) T
  refine T.F_p_reached_by.okX sc_p_reached_by (fun vs H Q E h => sp_p_reached_by_len h) (fun cdv A outer s H vs Q E hr h => ?_)
  obtain ⟨a, l, d, n, ps, v, rfl, hp, wf, h40, h⟩ := h
  obtain ⟨dx, ho⟩ := id hp.ob
  have sz : sizeLine = 16777216 := sizeLine_eq
  refine ⟨_, (pss_cons (ps_setDc (i := 2) (own := [("number", 6)]) (g := gName 6) (tt := tYes) rfl sc_p_reached_by.nd rfl rfl (sw_trueD rfl rfl rfl (by decide +kernel)) (pi_tup (pe_meth (pv 0) T.cl T.m_p_check_parts G_p_check_parts hr T.b_p_check_parts .nil (passes_call (takes_of rfl rfl rfl rfl) (fun _ _ _ _ h => h)) (pa_cons (pv 1) pa_nil))) (blkOk_by (N := ["self", "numbers", "found", "waiting", "part", "operand", "number"]) (sc := defScope s_p_reached_by) (by decide +kernel)) (fun _ _ _ _ _ => by exact pg_name (i := 6) sc_p_reached_by.nd rfl (Or.inl rfl)) (fun _ _ _ _ _ => by exact pts_nil) (fun _ _ _ _ _ => by exact (pv 6)) (fun _ _ _ _ _ => by exact pe_bl))
       (pss_cons (ps_set (i := 3) sc_p_reached_by.nd rfl (Or.inl rfl) (pe_callTy (call_listD rfl) (by rfl) T.n_list (by decide +kernel) (pa_cons (pv 2) pa_nil)))
       (pss_cons (ps_while (passes_of rfl) (pt_truth (pv 3) (by intro _; rfl))
        (pss_cons (ps_set (i := 4) sc_p_reached_by.nd rfl (Or.inl rfl) (pe_ix ix_list (pe_fldA (pv 0)) (pe_bm0 PySem.F.plainAttrs_list PySem.F.slot_list_pop PySem.F.type_list_pop mt_pop (pv 3)) (fun _ _ => rfl)))
       (pss_one (ps_if (pt_cmpR op_eq (pe_callB call_lenT (by rfl) T.n_len (by decide +kernel) (pa_cons (pv 4) pa_nil)) pe_int (nomark _))
        (pss_one (ps_for (passes_of rfl) rfl (pi_tup (pe_slice sl_tup (pv 4) (po_some pe_int) po_none)) (pg_name (i := 5) sc_p_reached_by.nd rfl (Or.inl rfl))
        (pss_one (ps_if (pt_cmp (pc_dnotin (hu_of hr) (pv 5) (pv 2)))
        (pss_cons (ps_dput (hu_of hr) (pv 2) (pv 5) pe_bl rfl)
       (pss_one (ps_expr (pe_bm PySem.F.plainAttrs_list PySem.F.slot_list_append PySem.F.type_list_append mt_append (pv 3) (pa_cons (pv 5) pa_nil)))))
        pss_nil))))
        pss_nil))))
       (pss_one (ps_ret (pe_callTy call_tupleL (by rfl) T.n_tuple (by decide +kernel) (pa_cons (pe_callB (cr_sortedDA rfl) (by rfl) T.n_sorted (by decide +kernel) (pa_cons (pv 2) pa_nil)) pa_nil))))))), ?_⟩
  rcases h with ⟨hv, k⟩ | ⟨xs, hr, k1, k2⟩
  · exact ⟨_, rfl, a, dx, _, rfl, ho, no_meth (by decide +kernel), _, rfl, a, l, d, n, ps, v, rfl, hp, .inl ⟨hv, k⟩⟩
  obtain ⟨q, rfl, hr'⟩ := id hr
  refine ⟨_, rfl, a, dx, _, rfl, ho, no_meth (by decide +kernel), _, rfl, a, l, d, n, ps, _, rfl, hp, .inr ⟨xs, hr, fun g t H1 s1 ht ht1 => ?_, k2⟩⟩
  obtain ⟨S, rfl, hS⟩ := of_goodR g
  have k := k1 S rfl hS
  clear k1 k2 hr hr'
  refine ⟨t, rfl, ⟨_, SqT.of ht1⟩, fun D hD => ?_⟩
  have hSl : ∀ j, (fromS (S.take j)).length ≤ ps.length := fun j => nodup_lt (fromS_seeds S j).nd fun k hk => hS k (List.mem_of_mem_take ((fromS_seeds S j).sub k hk))
  refine dc_tup (K := K) (a := t) (xs := natL S) (fun j H2 => Same H1 H2 ∧ H2 D = some (.dK (dk (fromS (S.take j))))) ⟨same_new hD, upd_same⟩ (fun j H2 _ ⟨s2, _⟩ => SqT.of (s2 _ _ ht1)) ?_ ?_
  · rintro j x H2 hj ⟨s2, hD2⟩
    obtain ⟨i, hi, rfl⟩ := natL_get hj
    refine ⟨rfl, yesT (iteP rfl ?_)⟩
    refine ⟨_, rfl, _, Sum.inl (i : Int), rfl, hD2, by rw [dk_len]; have := hSl j; omega, fun b o e => ?_, ?_⟩
    · rw [upd_ne (ne_of_none e hD)]; exact s2 _ _ e
    · rw [upd_same, dk_add, fromS_succ hi]
  rintro H2 ⟨s2, hD2⟩
  rw [natL_len, List.take_length] at hD2
  have hF0 := fromS_seeds S S.length
  have hSl := hSl S.length
  rw [List.take_length] at hF0 hSl
  have hD0 : H D = none := s1.free hD
  -- waiting = list(found)
  refine ⟨_, rfl, D, _, rfl, Rd.of hD2, fun L hL => ?_⟩
  have DL : D ≠ L := ne_of_none hD2 hL
  have hL0 : H L = none := (s1.trans s2).free hL
  -- while waiting: ..
  refine gN ?_
  dsimp only
  refine seqT ?_
  refine (while_by (fun σ H3 => ∃ (F W : List Nat) (v4 v5 : Option V), σ = [some (.ref a), some (.ref q), some (.ref D), some (.ref L), v4, v5, none] ∧ FWS ps S F W ∧ (∀ b o, H b = some o → H3 b = some o) ∧
      H3 D = some (.dK (dk F)) ∧ H3 L = some (.lst (natL W)) ∧ 2 * (ps.length - F.length) + W.length ≤ 2 * ps.length) (fun σ H3 => (match H3 D with | some (.dK kvs) => 2 * (ps.length - kvs.length) | _ => 0) + (match H3 L with | some (.lst xs) => xs.length | _ => 0)) ?_ ?_ ?_)
  · refine ⟨fromS S, fromS S, none, none, rfl, hF0.fw, fun b o e => ?_, ?_, ?_, ?_⟩
    · rw [upd_ne (ne_of_none e hL0)]; exact s2 _ _ (s1 _ _ e)
    · rw [upd_ne DL]; exact hD2
    · rw [upd_same, ← dk_kV]
    · omega
  · rintro σ H3 ⟨F, W, v4, v5, rfl, fw, hk, hD3, hL3, hB⟩
    refine ⟨_, rfl, _, Or.inl ⟨_, SqL.of hL3, rfl⟩, ?_⟩
    have hlen : F.length ≤ ps.length := nodup_lt fw.nd fun j hj => (fw.rch j hj).lt wf hS
    rcases W.eq_nil_or_concat with rfl | ⟨W', j, rfl⟩
    · refine iteN (by decide) ?_
      -- return tuple(sorted(found))
      refine ⟨_, rfl, D, _, F.map fun k => ((k : Nat) : Int), rfl, Rd.of hD3, dk_keys F, by rw [List.length_map]; omega, fun ys p hy1 hy2 hp3 => ?_⟩
      refine ⟨p, _, rfl, SqL.of upd_same, fun t' ht' => ?_⟩
      obtain ⟨ks, rfl, hasc, hmem⟩ := asc_of fw.nd hy1 hy2
      have s3 : Same H H3 := hk
      refine k t' _ ks ⟨hasc, fun z => (hmem z).trans ⟨fw.rch z, fun r => ?_⟩⟩ ((s3.trans (same_new hp3)).trans (same_new ht')) ((s3.trans (same_new hp3)).free ht') ?_
      · obtain ⟨i, m, r⟩ := r
        induction r with
        | self => exact fw.all _ m
        | left _ e ih => exact (fw.clo _ ih (by simp) _ _ _ e).1
        | right _ e ih => exact (fw.clo _ ih (by simp) _ _ _ e).2
      · rw [upd_same, List.map_map]; rfl
    · refine iteP (by simp [natL]) ?_
      rw [List.concat_eq_append] at fw hL3 hB
      have mid := fw.mid
      have hjF : j ∈ F := fw.sub j (by simp)
      have hjn : j < ps.length := (fw.rch j hjF).lt wf hS
      obtain ⟨p, hpj⟩ : ∃ p, ps[j]? = some p := ⟨_, List.getElem?_eq_getElem hjn⟩
      have hp3 : PoolAt T.C H3 a l d n ps := hp.news hk
      obtain ⟨xs, hLl, ex, hit⟩ := hp.lst.item
      obtain ⟨t5, ht5, hT5⟩ := hit j p hpj
      have lL : l ≠ L := ne_of_none hLl hL0
      have tL : t5 ≠ L := ne_of_none hT5 hL0
      have hL3' := hL3
      rw [natL_snoc] at hL3'
      refine ⟨_, rfl, a, T.C, dx, _, _, rfl, hk _ _ ho, T.cl, T.nA__parts, look_parts _ _ _, _, rfl, Or.inl ⟨rfl, _, SqL.of hL3'⟩, L, _, .int (j : Nat), rfl, rfl, hL3', by simp, ?_⟩
      rw [List.dropLast_concat]
      have k4 : ∀ b o, H b = some o → upd H3 L (.lst (natL W')) b = some o := fun b o e => by rw [upd_ne (ne_of_none e hL0)]; exact hk _ _ e
      refine ⟨l, xs, _, _, rfl, rfl, SqL.of (k4 _ _ hLl), at_of rfl ht5, ?_⟩
      refine ⟨_, rfl, t5, _, rfl, SqT.of (k4 _ _ hT5), rfl, _, rfl, ?_⟩
      have hD4 : upd H3 L (.lst (natL W')) D = some (.dK (dk F)) := by rw [upd_ne DL]; exact hD3
      have m3 : (match H3 D with | some (.dK kvs) => 2 * (ps.length - kvs.length) | _ => 0) + (match H3 L with | some (.lst xs) => xs.length | _ => 0) = 2 * (ps.length - F.length) + (W'.length + 1) := by
        rw [hD3, hL3']
        simp [dk_len, natL_len]
      have close : ∀ (H5 : Hp) (v5 v6 : Option V) (s : List Nat × List Nat), FWS ps S s.1 s.2 → (∀ b o, H b = some o → H5 b = some o) → H5 D = some (.dK (dk s.1)) → H5 L = some (.lst (natL s.2)) → 2 * (ps.length - s.1.length) + s.2.length ≤ 2 * (ps.length - F.length) + W'.length →
          (∃ (F W : List Nat) (v4 v7 : Option V), [some (V.ref a), some (.ref q), some (.ref D), some (.ref L), v5, v6, none] = [some (V.ref a), some (.ref q), some (.ref D), some (.ref L), v4, v7, none] ∧ FWS ps S F W ∧ (∀ b o, H b = some o → H5 b = some o) ∧ H5 D = some (.dK (dk F)) ∧ H5 L = some (.lst (natL W)) ∧ 2 * (ps.length - F.length) + W.length ≤ 2 * ps.length) ∧
          (match H5 D with | some (.dK kvs) => 2 * (ps.length - kvs.length) | _ => 0) + (match H5 L with | some (.lst xs) => xs.length | _ => 0) < (match H3 D with | some (.dK kvs) => 2 * (ps.length - kvs.length) | _ => 0) + (match H3 L with | some (.lst xs) => xs.length | _ => 0) := by
        intro H5 v5 v6 s f h1 h2 h3 hm
        refine ⟨⟨s.1, s.2, v5, v6, rfl, f, h1, h2, h3, by rw [List.length_append, List.length_singleton] at hB; omega⟩, ?_⟩
        rw [m3, h2, h3]
        simp only [dk_len, natL_len]
        omega
      cases p with
      | num v =>
        refine iteN (fun z => absurd (of_decide_eq_true z) (by simp [Part.vals])) ?_
        exact close _ _ _ (F, W') (mid.fw fun o a b e => by rw [hpj] at e; cases e) k4 hD4 upd_same (Nat.le_refl _)
      | get v =>
        refine iteN (fun z => absurd (of_decide_eq_true z) (by simp [Part.vals])) ?_
        exact close _ _ _ (F, W') (mid.fw fun o a b e => by rw [hpj] at e; cases e) k4 hD4 upd_same (Nat.le_refl _)
      | op o x y =>
        refine iteP (dT rfl) ?_
        refine ⟨_, rfl, 1, rfl, t5, _, rfl, SqT.of (k4 _ _ hT5), by intro z; exact absurd z.1 (by show ¬ HT.sIx 3 0 (some 1) = 0; decide), fun s hs => ?_⟩
        refine ⟨s, rfl, ⟨_, SqT.of upd_same⟩, ?_⟩
        have ecut : cutV (Part.op o x y).vals (some 1) none = [.int (x : Nat), .int (y : Nat)] := rfl
        rw [ecut]
        have rx := ReachS.left (fw.rch j hjF) hpj
        have ry := ReachS.right (fw.rch j hjF) hpj
        generalize hH4 : upd H3 L (.lst (natL W')) = H4 at *
        have hL4 : H4 L = some (.lst (natL W')) := by rw [← hH4]; exact upd_same
        have hs0 : H s = none := by
          cases e : H s with
          | none => rfl
          | some u => rw [k4 s u e] at hs; cases hs
        have sD : s ≠ D := (ne_of_none hD4 hs).symm
        have sL : s ≠ L := (ne_of_none hL4 hs).symm
        refine for_tup (K := K) (a := s) (xs := [.int (x : Nat), .int (y : Nat)]) (fun i' σ' H5 => ∃ v6 : Option V, σ' = [some (.ref a), some (.ref q), some (.ref D), some (.ref L), some (.ref t5), v6, none] ∧
          (∀ b o, H b = some o → H5 b = some o) ∧ H5 s = some (.tup [.int (x : Nat), .int (y : Nat)]) ∧ MidS ps S (adds (F, W') ([x, y].take i')) j ∧ (∀ z ∈ [x, y].take i', z ∈ (adds (F, W') ([x, y].take i')).1) ∧
          H5 D = some (.dK (dk (adds (F, W') ([x, y].take i')).1)) ∧ H5 L = some (.lst (natL (adds (F, W') ([x, y].take i')).2)) ∧
          2 * (ps.length - (adds (F, W') ([x, y].take i')).1.length) + (adds (F, W') ([x, y].take i')).2.length ≤ 2 * (ps.length - F.length) + W'.length) ?_ ?_ ?_ ?_
        · refine ⟨_, rfl, fun b o e => ?_, upd_same, mid, by simp, ?_, ?_, Nat.le_refl _⟩
          · rw [upd_ne (ne_of_none e hs0)]; exact k4 _ _ e
          · rw [upd_ne sD.symm]; exact hD4
          · rw [upd_ne sL.symm]; exact hL4
        · rintro i' σ' H5 _ ⟨_, _, _, h2, _⟩
          exact SqT.of h2
        · rintro i' v σ' H5 hv ⟨v6, rfl, h1, h2, md, h3, h4, h5, h6⟩
          obtain ⟨z, hz, rfl⟩ : ∃ z : Nat, [x, y][i']? = some z ∧ v = .int z := by
            match i', hv with
            | 0, hv => cases hv; exact ⟨x, rfl, rfl⟩
            | 1, hv => cases hv; exact ⟨y, rfl, rfl⟩
            | i' + 2, hv => simp at hv
          have rz : ReachS ps S z := by
            match i', hz with
            | 0, hz => cases hz; exact rx
            | 1, hz => cases hz; exact ry
            | i' + 2, hz => simp at hz
          have e1 := adds_two (s := (F, W')) x y i' z hz
          have et : [x, y].take (i' + 1) = [x, y].take i' ++ [z] := by rw [List.take_add_one, hz]; rfl
          have md2 := md.add rz
          have hlen2 : (addN (adds (F, W') ([x, y].take i')) z).1.length ≤ ps.length := nodup_lt md2.nd fun k hk => (md2.rch k hk).lt wf hS
          have me := addN_meas ps.length _ z hlen2
          have h3' : ∀ u ∈ [x, y].take (i' + 1), u ∈ (addN (adds (F, W') ([x, y].take i')) z).1 := fun u hu => by
            rw [et] at hu
            rcases List.mem_append.mp hu with hu | hu
            · exact addN_mono (h3 u hu)
            · simp at hu; subst hu; exact addN_self
          have dg := DGet.k (k := Sum.inl ((z : Nat) : Int)) h4
          rw [valV_dk] at dg
          refine ⟨_, rfl, _, rfl, D, _, rfl, dg, _, rfl, ?_⟩
          by_cases hm : z ∈ (adds (F, W') ([x, y].take i')).1
          · rw [if_pos hm]
            refine iteN (by decide) ?_
            rw [e1]
            rw [addN_in hm] at md2 me h3' ⊢
            exact ⟨_, rfl, h1, h2, md2, h3', h4, h5, Nat.le_trans me h6⟩
          · rw [if_neg hm]
            refine iteP (by decide) ?_
            refine ⟨_, rfl, _, rfl, D, _, rfl, DPut.k (k := Sum.inl ((z : Nat) : Int)) h4 (by rw [dk_len, sizeLine_eq]; have := nodup_lt md.nd fun k hk => (md.rch k hk).lt wf hS; omega), ?_⟩
            rw [dk_put hm]
            have h5' : upd H5 D (.dK (dk ((adds (F, W') ([x, y].take i')).1 ++ [z]))) L = some (.lst (natL (adds (F, W') ([x, y].take i')).2)) := by rw [upd_ne DL.symm]; exact h5
            refine ⟨_, rfl, Or.inl ⟨rfl, _, SqL.of h5'⟩, _, rfl, L, _, _, rfl, rfl, h5', ?_, ?_⟩
            · rw [natL_len, sizeLine_eq]
              have : (adds (F, W') ([x, y].take i')).2.length ≤ 2 * (ps.length - F.length) + W'.length := by omega
              rw [List.length_append, List.length_singleton] at hB
              omega
            · rw [e1]
              rw [addN_new hm] at md2 me h3' ⊢
              refine ⟨_, rfl, fun b o e => ?_, ?_, md2, h3', ?_, ?_, Nat.le_trans me h6⟩
              · rw [upd_ne (ne_of_none e hL0), upd_ne (ne_of_none e hD0)]; exact h1 _ _ e
              · rw [upd_ne sL, upd_ne sD]; exact h2
              · rw [upd_ne DL]; exact upd_same
              · rw [upd_same, natL_snoc]
        · rintro σ' H5 ⟨v6, rfl, h1, h2, md, h3, h4, h5, h6⟩
          refine close H5 _ _ _ (md.fw fun o' a' b' e => ?_) h1 h4 h5 h6
          rw [hpj] at e
          cases e
          exact ⟨h3 x (by simp), h3 y (by simp)⟩
  · rintro σ H3 Q1 Q2 hq ⟨v, e1, k1, e2, h⟩
    exact ⟨v, e1, k1, e2, hq _ _ h⟩
end
end My

/-! G -/
namespace My
open PySem L2
local macro_rules | `(tactic| walk_at "side") => `(tactic| first | with_reducible rfl | assumption | rfl | decide | omega | exact cpow1 (by omega) (by omega) | exact cdiv (by omega) (by omega) | exact two_pos _ | exact SqL.of (by assumption) | exact SqT.of (by assumption) | exact TyX.base (TyOf.int _) | exact TyX.base (TyOf.bl _) | exact TyX.base TyOf.non | exact scal_opt _ _ | exact k_ii | exact k_bi | exact k_ni | exact k_ib | exact k_bb | exact TyX.base (TyOf.lst (by assumption)) | exact k_ll | exact k_lt)
local macro_rules | `(tactic| walk_at "p") => `(tactic| repeat (first | refine And.intro (by walk_at "side") ?_ | apply Exists.intro | refine iteN (by assumption) ?_ | refine iteP (by assumption) ?_ | refine iteN (by decide) ?_ | refine iteP (by decide) ?_))

section
variable {P : Program} {w : World} {K : PySem.W.Frag} {mg : Str → Option Value} {base : Heap}
def sp_p_reached (T : Txt K mg) : Sp := fun vs H Q E => ∃ (a l d : Addr) (n : Nat) (ps : List Part) (x : V), vs = [.ref a, x] ∧ PoolAt T.C H a l d n ps ∧ plainV x = true ∧ WF ps ∧ ps.length ≤ 4000 ∧
  (∀ i : Nat, x = .int i → i < ps.length → ∀ (t : Addr) (H' : Hp) (ks : List Nat), ReachL ps i ks → Same H H' → H t = none → H' t = some (.tup (natL ks)) → Q (.ref t) H') ∧
  (¬ goodP ps.length x = true → E (.ref T.C_BadPart) none H)
theorem sp_p_reached_len {T : Txt K mg} {vs H Q E} (h : sp_p_reached T vs H Q E) : vs.length = 2 := by obtain ⟨_, _, _, _, _, _, rfl, _⟩ := h; rfl
theorem of_good {n : Nat} {x : V} (h : goodP n x = true) : ∃ i : Nat, x = .int i ∧ i < n := by
  cases x with
  | int j =>
    have := of_decide_eq_true h
    exact ⟨j.toNat, by congr 1; omega, by omega⟩
  | _ => cases h
theorem ok_p_reached (T : Txt K mg) : FnOk P w K mg base (L2.CX P w) 5 T.f_p_reached T.fd_p_reached ["self", "number"] (sp_p_reached T) := by
  have G_p_check_part := ok_p_check_part (P := P) (w := w) (base := base) T; have G_p_reached_by := ok_p_reached_by (P := P) (w := w) (base := base) T
  refine T.F_p_reached.okX sc_p_reached (fun vs H Q E h => sp_p_reached_len h) (fun cdv A outer s H vs Q E hr h => ?_)
  obtain ⟨a, l, d, n, ps, x, rfl, hp, hx, wf, h40, k1, k2⟩ := h
  obtain ⟨dx, ho⟩ := id hp.ob
  refine ⟨_, (pss_one (ps_ret (pe_meth (pv 0) T.cl T.m_p_reached_by G_p_reached_by hr T.b_p_reached_by .nil (passes_call (takes_of rfl rfl rfl rfl) (fun _ _ _ _ h => h)) (pa_cons (pe_lst (pa_cons (pe_meth (pv 0) T.cl T.m_p_check_part G_p_check_part (hr.mono (by decide)) T.b_p_check_part .nil (passes_call (takes_of rfl rfl rfl rfl) (fun _ _ _ _ h => h)) (pa_cons (pv 1) pa_nil)) pa_nil)) pa_nil)))), ?_⟩
  refine ⟨_, rfl, a, dx, _, rfl, ho, no_meth (by decide +kernel), _, rfl, a, dx, _, rfl, ho, no_meth (by decide +kernel), _, rfl, a, l, d, n, ps, x, rfl, hp, hx, fun g => ?_, fun g => k2 g⟩
  obtain ⟨i, rfl, hi⟩ := of_good g
  refine ⟨by show 1 ≤ sizeLine; decide, fun q hq => ?_⟩
  have s1 := same_new (o := .lst [.int (i : Nat)]) hq
  have gr : ∀ j ∈ [i], j < ps.length := fun j hj => by simp at hj; omega
  refine ⟨a, l, d, n, ps, .ref q, rfl, hp.news s1, wf, h40, .inr ⟨natL [i], ⟨q, rfl, .inl upd_same, plain_nat, by simp [natL]⟩, fun S eS hS t H' ks hr s2 ht ht' => ?_, fun z => absurd (goodR_of gr) z⟩⟩
  obtain rfl := natL_inj eS
  exact k1 i rfl hi t H' ks hr.one (s1.trans s2) (s1.free ht) ht'
def sp_p_gets (T : Txt K mg) : Sp := fun vs H Q _ => ∃ (a l d t : Addr) (n : Nat) (ps : List Part) (ks : List Nat), vs = [.ref a, .ref t] ∧ PoolAt T.C H a l d n ps ∧ H t = some (.tup (natL ks)) ∧ ks.length ≤ 4000 ∧ (∀ k ∈ ks, k < ps.length) ∧
  ∀ (u : Addr) (H' : Hp) (ns : List Int), ns.Perm (getsOf ps ks) → ns.Pairwise (· ≤ ·) → Same H H' → H u = none → H' u = some (.tup (ns.map V.int)) → Q (.ref u) H'
theorem sp_p_gets_len {T : Txt K mg} {vs H Q E} (h : sp_p_gets T vs H Q E) : vs.length = 2 := by obtain ⟨_, _, _, _, _, _, _, rfl, _⟩ := h; rfl
theorem op_ne_get (o : Op) : ¬ o.s = ("get" : Str) := by cases o <;> decide +kernel
theorem op_get_f (o : Op) : ¬ decide (V.str o.s = V.str "get") = true := fun z => op_ne_get o (by have z := of_decide_eq_true z; injection z)
theorem op_num_f (o : Op) : ¬ decide (V.str o.s = V.str "num") = true := fun z => op_ne_num o (by have z := of_decide_eq_true z; injection z)
theorem ok_p_gets (T : Txt K mg) : FnOk P w K mg base CX0 1 T.f_p_gets T.fd_p_gets ["self", "numbers"] (sp_p_gets T) := by
  skip
  refine T.F_p_gets.ok sc_p_gets (fun vs H Q E h => sp_p_gets_len h) (fun cdv A outer s H vs Q E hr h => ?_)
  obtain ⟨a, l, d, t, n, ps, ks, rfl, hp, ht, hz, hk, k⟩ := h
  obtain ⟨dx, ho⟩ := id hp.ob
  obtain ⟨xs, hL, ex, hit⟩ := hp.lst.item
  refine ⟨_, (pss_cons (ps_setLc (i := 2) (te := tOp (rIxL K) (tFld K (tVar 0) "_parts") (tVar 3)) (own := [("number", 3)]) (g := gName 3) (tt := tYes) rfl sc_p_gets.nd rfl rfl (sw_true rfl rfl rfl (by decide +kernel)) (pi_tup (pv 1)) (blkOk_by (N := ["self", "numbers", "parts", "number", "part"]) (sc := defScope s_p_gets) (by decide +kernel)) (fun _ _ _ _ _ => by exact pg_name (i := 3) sc_p_gets.nd rfl (Or.inl rfl)) (fun _ _ _ _ _ => by exact pts_nil) (fun _ _ _ _ _ => by exact (pe_ix ix_list (pe_fldA (pv 0)) (pv 3) (fun _ _ => rfl))))
       (pss_one (ps_ret (pe_callTy call_tupleL (by rfl) T.n_tuple (by decide +kernel) (pa_cons (pe_callB cr_sortedI (by rfl) T.n_sorted (by decide +kernel) (pa_cons (pe_lc (te := tOp (rIxT K) (tVar 4) (tC (.int 1))) (own := [("part", 4)]) (g := gName 4) (tt := (tTest (tOp rEq (tOp (rIxT K) (tVar 4) (tC (.int 0))) (tC (.str "get"))))) rfl sc_p_gets.nd (pi_list (pv 2)) (blkOk_by (N := ["self", "numbers", "parts", "number", "part"]) (sc := defScope s_p_gets) (by decide +kernel)) (fun _ _ _ _ _ => by exact pg_name (i := 4) sc_p_gets.nd rfl (Or.inl rfl)) (fun _ _ _ _ _ => by exact (pts_one (pt_cmpR op_eq (pe_ix ix_tup (pv 4) pe_int (fun _ _ => rfl)) pe_str (nomark _)))) (fun _ _ _ _ _ => by exact (pe_ix ix_tup (pv 4) pe_int (fun _ _ => rfl)))) pa_nil)) pa_nil))))), ?_⟩
  have sz : sizeLine = 16777216 := sizeLine_eq
  refine ⟨_, rfl, t, rfl, ⟨_, SqT.of ht⟩, fun D hD => ?_⟩
  refine lc_tup (K := K) (a := t) (xs := natL ks) (fun j H2 => Same H H2 ∧ ∃ ys : List V, H2 D = some (.lst ys) ∧ ys.length = j ∧ ∀ (i : Nat) (y : V), ys[i]? = some y → ∃ (k : Nat) (u : Addr) (p : Part), ks[i]? = some k ∧ y = V.ref u ∧ ps[k]? = some p ∧ H u = some (.tup p.vals)) ⟨same_new hD, [], upd_same, rfl, by simp⟩ (fun j H2 _ ⟨s2, _⟩ => SqT.of (s2 _ _ ht)) ?_ ?_
  · rintro j x H2 hj ⟨s2, ys, hys, hl, hy⟩
    obtain ⟨z, hzj, rfl⟩ := natL_get hj
    have hzk := List.mem_of_getElem? hzj
    have hjl := (List.getElem?_eq_some_iff.mp hzj).1
    obtain ⟨p, hp'⟩ : ∃ p, ps[z]? = some p := ⟨_, List.getElem?_eq_getElem (hk z hzk)⟩
    obtain ⟨u, hu, hU⟩ := hit z p hp'
    refine ⟨rfl, yesT (iteP rfl ?_)⟩
    refine ⟨_, rfl, a, T.C, dx, _, _, rfl, s2 _ _ ho, T.cl, T.nA__parts, look_parts _ _ _, _, rfl, l, xs, _, _, rfl, rfl, SqL.of (s2 _ _ hL), at_of rfl hu, ?_⟩
    refine ⟨ys, hys, by omega, fun b o e => ?_, ys ++ [.ref u], upd_same, by simp [hl], fun i y e => ?_⟩
    · rw [upd_ne (ne_of_none e hD)]; exact s2 _ _ e
    · by_cases hi : i < ys.length
      · rw [List.getElem?_append_left hi] at e; exact hy i y e
      · have := (List.getElem?_eq_some_iff.mp e).1
        rw [List.length_append, List.length_singleton] at this
        have ei : i = ys.length := by omega
        subst ei
        rw [List.getElem?_append_right (Nat.le_refl _), Nat.sub_self] at e
        cases e
        exact ⟨z, u, p, by rw [hl]; exact hzj, rfl, hp', hU⟩
  rintro H2 ⟨s2, ys, hys, hl, hy⟩
  rw [natL_len] at hl
  -- tuple(sorted([part[1] for part in parts if part[0] == "get"]))
  refine ⟨_, rfl, D, rfl, ⟨_, SqL.of hys⟩, fun G hG => ?_⟩
  refine lc_list (K := K) (a := D) (xs := ys) (fun j H3 => Same H2 H3 ∧ H3 G = some (.lst ((getsOf ps (ks.take j)).map V.int)) ∧ (getsOf ps (ks.take j)).length ≤ j) ⟨same_new hG, upd_same, Nat.le_refl _⟩ (fun j H3 _ ⟨s3, _⟩ => SqL.of (s3 _ _ hys)) ?_ ?_
  · rintro j x H3 hj ⟨s3, hns, hl3⟩
    obtain ⟨z, u, p, hz', rfl, hp', hU⟩ := hy j x hj
    have hjl := (List.getElem?_eq_some_iff.mp hj).1
    have hU3 := s3 _ _ (s2 _ _ hU)
    have et : getsOf ps (ks.take (j + 1)) = getsOf ps (ks.take j) ++ (getAt ps z).toList := by rw [List.take_add_one, hz']; exact getsOf_snoc _ _ _
    cases p with
    | num v =>
      rw [getAt_num hp', Option.toList_none, List.append_nil] at et
      exact ⟨rfl, _, rfl, u, _, 0, _, rfl, rfl, SqT.of hU3, rfl, rfl, _, rfl, iteN (by decide) ⟨s3, by rw [et]; exact hns, by rw [et]; omega⟩⟩
    | op o x y =>
      rw [getAt_op hp', Option.toList_none, List.append_nil] at et
      exact ⟨rfl, _, rfl, u, _, 0, _, rfl, rfl, SqT.of hU3, rfl, rfl, _, rfl, iteN (op_get_f o) ⟨s3, by rw [et]; exact hns, by rw [et]; omega⟩⟩
    | get v =>
      rw [getAt_get hp', Option.toList_some] at et
      refine ⟨rfl, _, rfl, u, _, 0, _, rfl, rfl, SqT.of hU3, rfl, rfl, _, rfl, iteP (by decide) ?_⟩
      refine ⟨_, rfl, u, _, 1, _, rfl, rfl, SqT.of hU3, rfl, ?_⟩
      refine ⟨_, hns, by rw [List.length_map]; omega, fun b o e => ?_, by rw [upd_same, et, List.map_append]; rfl, by rw [et]; simp; omega⟩
      rw [upd_ne (ne_of_none e hG)]; exact s3 _ _ e
  rintro H3 ⟨s3, hns, hl3⟩
  rw [hl, List.take_length] at hns
  refine ⟨G, _, rfl, SqL.of hns, fun ns' p hperm hsort hpn => ?_⟩
  refine ⟨p, _, rfl, SqL.of upd_same, fun u hu => ?_⟩
  have s4 := ((s2.trans s3).trans (same_new (o := .lst (ns'.map V.int)) hpn)).trans (same_new (o := .tup (ns'.map V.int)) hu)
  exact k u _ ns' hperm hsort s4 (((s2.trans s3).trans (same_new hpn)).free hu) upd_same
end
end My

/-! P2 -/
namespace My
open PySem L2
/-! ### rows, and what is made of them: plain Lean -/
/-- one row made: its number and the parts behind it -/
def mPart (n : Nat) (ps : List Part) (r : Part) (pl : List Nat) : Nat × List Part := match r with
  | .op o a b => mApply n ps o (pl.getD a 0) (pl.getD b 0)
  | p => mk ps p
/-- the row's operands stand ahead, and what was made stands in the pool -/
structure RowIn (n : Nat) (ps : List Part) (r : Part) (pl : List Nat) : Prop where
  ahead : ∀ o a b, r = .op o a b → a < pl.length ∧ b < pl.length
  there : ∀ k ∈ pl, k < ps.length
  ok : PartOk n r
theorem RowIn.at {n : Nat} {ps : List Part} {r : Part} {pl : List Nat} (h : RowIn n ps r pl) {a : Nat} (ha : a < pl.length) : pl.getD a 0 < ps.length := by
  rw [List.getD_eq_getElem?_getD, List.getElem?_eq_getElem ha]
  exact h.there _ (List.getElem_mem ha)
/-- drawn rows: unknowns below u, operands ahead -/
structure Rows (n u : Nat) (plain : Bool) (rs : List Part) : Prop where
  ok : Ok n rs
  gets : ∀ (k : Nat) (g : Int), rs[k]? = some (Part.get g) → g < u
  pln : plain = true → ∀ (k : Nat) (o : Op) (a b : Nat), rs[k]? = some (Part.op o a b) → o ≠ .less ∧ o ≠ .same
def RowOk (n u : Nat) (plain : Bool) (len : Nat) (p : Part) : Prop := Ahead len p ∧ PartOk n p ∧ (∀ g, p = Part.get g → g < u) ∧ (plain = true → ∀ o a b, p = Part.op o a b → o ≠ .less ∧ o ≠ .same)
theorem rows_nil (n u : Nat) (plain : Bool) : Rows n u plain [] := ⟨ok_nil n, fun _ _ e => by simp at e, fun _ _ _ _ _ e => by simp at e⟩
theorem snoc_at {ps : List Part} {p q : Part} {k : Nat} (e : (ps ++ [p])[k]? = some q) : ps[k]? = some q ∨ (k = ps.length ∧ q = p) := by
  by_cases hk : k < ps.length
  · rw [List.getElem?_append_left hk] at e; exact .inl e
  · have hl := (List.getElem?_eq_some_iff.mp e).1
    rw [List.length_append, List.length_singleton] at hl
    have ek : k = ps.length := by omega
    subst ek
    rw [List.getElem?_append_right (Nat.le_refl _), Nat.sub_self] at e
    cases e
    exact .inr ⟨rfl, rfl⟩
theorem Rows.snoc {n u : Nat} {plain : Bool} {rs : List Part} {p : Part} (h : Rows n u plain rs) (hp : RowOk n u plain rs.length p) : Rows n u plain (rs ++ [p]) := by
  obtain ⟨h1, h2, h3, h4⟩ := hp
  refine ⟨ok_snoc h.ok h1 h2, fun k g e => ?_, fun q k o a b e => ?_⟩
  · rcases snoc_at e with e | ⟨_, e⟩
    · exact h.gets k g e
    · exact h3 g e.symm
  · rcases snoc_at e with e | ⟨_, e⟩
    · exact h.pln q k o a b e
    · exact h4 q o a b e.symm
/-! ### all rows made -/
def mStep (n : Nat) (st : List Part × List Nat) (r : Part) : List Part × List Nat := ((mPart n st.1 r st.2).2, st.2 ++ [(mPart n st.1 r st.2).1])
def mAll (n : Nat) (rs : List Part) : List Part × List Nat := rs.foldl (mStep n) ([], [])
theorem mAll_snoc (n : Nat) (rs : List Part) (r : Part) : mAll n (rs ++ [r]) = mStep n (mAll n rs) r := by unfold mAll; rw [List.foldl_append]; rfl
theorem rowOk_at {n u : Nat} {plain : Bool} {rs : List Part} (h : Rows n u plain rs) {k : Nat} {p : Part} (e : rs[k]? = some p) : RowOk n u plain k p := by
  refine ⟨?_, ?_, fun g eg => ?_, fun hp o a b eo => ?_⟩
  · cases p with
    | op o a b => exact h.ok.wf _ _ _ _ e
    | _ => trivial
  · cases p with
    | op o a b => trivial
    | get g => exact h.ok.get _ _ e
    | num v => exact h.ok.num _ _ e
  · subst eg; exact h.gets _ _ e
  · subst eo; exact h.pln hp _ _ _ _ e
/-- a part put into well made parts -/
theorem rows_mk {n u : Nat} {plain : Bool} {ps : List Part} {p : Part} (h : Rows n u plain ps) (hp : RowOk n u plain ps.length p) : Rows n u plain (mk ps p).2 := by
  unfold mk; split
  · exact h
  · exact h.snoc hp
theorem rowOk_num {n u : Nat} {plain : Bool} {len : Nat} {v : Int} (h : 0 ≤ v ∧ v < 2 ^ n) : RowOk n u plain len (.num v) := ⟨trivial, h, fun g e => (by cases e), fun _ o a b e => by cases e⟩
theorem rows_fin {n u : Nat} (h1 : 1 ≤ n) {plain : Bool} {ps : List Part} (h : Rows n u plain ps) {o : Op} {a b : Nat} (ha : a < ps.length) (hb : b < ps.length) (hpl : plain = true → o ≠ .less ∧ o ≠ .same) (s : Sh) : Rows n u plain (fin ps o a b s).2 := by
  cases s
  · exact h
  · exact h
  · exact rows_mk h (rowOk_num ⟨Int.le_refl _, pow_pos' n⟩)
  · exact rows_mk h (rowOk_num ⟨by decide, one_lt h1⟩)
  · exact rows_mk h ⟨⟨ha, hb⟩, trivial, fun g e => (by cases e), fun hp o' a' b' e => (by cases e; exact hpl hp)⟩
theorem rows_mApply {n u : Nat} (h1 : 1 ≤ n) {plain : Bool} {ps : List Part} (h : Rows n u plain ps) {o : Op} {a b : Nat} (ha : a < ps.length) (hb : b < ps.length) (hpl : plain = true → o ≠ .less ∧ o ≠ .same) : Rows n u plain (mApply n ps o a b).2 := by
  unfold mApply; split
  · rename_i x y ea eb
    exact rows_mk h (rowOk_num (opI_range h1 (word_ok h.ok ea) (word_ok h.ok eb)))
  · split
    · exact rows_fin h1 h hb ha hpl _
    · exact rows_fin h1 h ha hb hpl _
/-- what holds behind the rows made -/
structure AInv (n u : Nat) (plain : Bool) (rs : List Part) (st : List Part × List Nat) : Prop where
  rows : Rows n u plain st.1
  plen : st.2.length = rs.length
  len : st.1.length ≤ rs.length
  there : ∀ k ∈ st.2, k < st.1.length
theorem AInv.rowIn {n u : Nat} {plain : Bool} {rs : List Part} {st : List Part × List Nat} (h : AInv n u plain rs st) {r : Part} (hr : RowOk n u plain rs.length r) : RowIn n st.1 r st.2 :=
  ⟨fun o a b e => by have := hr.1; subst e; rw [h.plen]; exact this, h.there, hr.2.1⟩
theorem AInv.step {n u : Nat} (h1 : 1 ≤ n) {plain : Bool} {rs : List Part} {st : List Part × List Nat} (h : AInv n u plain rs st) {r : Part} (hr : RowOk n u plain rs.length r) :
    AInv n u plain (rs ++ [r]) (mStep n st r) ∧ st.1 <+: (mStep n st r).1 ∧ (mPart n st.1 r st.2).1 < (mStep n st r).1.length := by
  have hin := h.rowIn hr
  have key : Rows n u plain (mPart n st.1 r st.2).2 ∧ (mPart n st.1 r st.2).1 < (mPart n st.1 r st.2).2.length ∧ (mPart n st.1 r st.2).2.length ≤ st.1.length + 1 ∧ st.1 <+: (mPart n st.1 r st.2).2 := by
    cases r with
    | num v => exact ⟨rows_mk h.rows (rowOk_num hr.2.1), mk_lt _ _, mk_len _ _, mk_pre _ _⟩
    | get g => exact ⟨rows_mk h.rows ⟨trivial, hr.2.1, hr.2.2.1, fun _ o a b e => by cases e⟩, mk_lt _ _, mk_len _ _, mk_pre _ _⟩
    | op o a b =>
      obtain ⟨ha, hb⟩ := hin.ahead o a b rfl
      exact ⟨rows_mApply h1 h.rows (hin.at ha) (hin.at hb) (fun hp => hr.2.2.2 hp o a b rfl), mApply_lt (hin.at ha) (hin.at hb), mApply_len _ _ _ _ _, mApply_pre _ _ _ _ _⟩
  refine ⟨⟨key.1, ?_, ?_, fun k hk => ?_⟩, key.2.2.2, key.2.1⟩
  · show (st.2 ++ [_]).length = _
    rw [List.length_append, List.length_append, h.plen]; rfl
  · show (mPart n st.1 r st.2).2.length ≤ _
    rw [List.length_append, List.length_singleton]
    have := h.len; have := key.2.2.1; omega
  · rcases List.mem_append.mp hk with hk | hk
    · have := h.there k hk
      have := key.2.2.2.length_le
      show k < (mPart n st.1 r st.2).2.length
      omega
    · simp at hk; subst hk; exact key.2.1
theorem aInv_nil (n u : Nat) (plain : Bool) : AInv n u plain [] ([], []) := ⟨rows_nil _ _ _, rfl, Nat.le_refl _, fun k h => by simp at h⟩
theorem Rows.take {n u : Nat} {plain : Bool} {rs : List Part} (h : Rows n u plain rs) (j : Nat) : Rows n u plain (rs.take j) := by
  have at_ : ∀ {k : Nat} {p : Part}, (rs.take j)[k]? = some p → rs[k]? = some p := fun {k p} e => by
    have hk := (List.getElem?_eq_some_iff.mp e).1
    rw [List.length_take] at hk
    rw [List.getElem?_take, if_pos (by omega)] at e; exact e
  exact ⟨⟨fun k o a b e => h.ok.wf k o a b (at_ e), fun k g e => h.ok.get k g (at_ e), fun k v e => h.ok.num k v (at_ e)⟩, fun k g e => h.gets k g (at_ e), fun q k o a b e => h.pln q k o a b (at_ e)⟩
theorem mAll_inv {n u : Nat} (h1 : 1 ≤ n) {plain : Bool} {rs : List Part} (h : Rows n u plain rs) : ∀ j, AInv n u plain (rs.take j) (mAll n (rs.take j)) := by
  intro j
  induction j with
  | zero => rw [List.take_zero]; exact aInv_nil _ _ _
  | succ j ih =>
    by_cases hj : j < rs.length
    · obtain ⟨p, hp⟩ : ∃ p, rs[j]? = some p := ⟨_, List.getElem?_eq_getElem hj⟩
      rw [take_snoc hp, mAll_snoc]
      have hl : (rs.take j).length = j := by rw [List.length_take]; omega
      exact (ih.step h1 (by rw [hl]; exact rowOk_at h hp)).1
    · rw [List.take_of_length_le (by omega)]
      rw [List.take_of_length_le (by omega)] at ih
      exact ih
/-! ### what apply keeps -/
theorem and_nat (a b : Nat) : Builtin.bitAnd (a : Int) (b : Int) = ((a &&& b : Nat) : Int) := by simp [Builtin.bitAnd]
theorem or_nat (a b : Nat) : Builtin.bitOr (a : Int) (b : Int) = ((a ||| b : Nat) : Int) := by rw [Bits.bitOr_pp (by omega) (by omega), Int.toNat_natCast, Int.toNat_natCast]
theorem xor_nat (a b : Nat) : Builtin.bitXor (a : Int) (b : Int) = ((a ^^^ b : Nat) : Int) := by rw [Bits.bitXor_pp (by omega) (by omega), Int.toNat_natCast, Int.toNat_natCast]
def Gd (n : Nat) (x : Int) : Prop := 0 ≤ x ∧ x < 2 ^ n
theorem Gd.nat {n : Nat} {x : Int} (h : Gd n x) : ∃ a : Nat, x = a ∧ a < 2 ^ n := by
  obtain ⟨a, rfl⟩ := Int.eq_ofNat_of_zero_le h.1
  exact ⟨a, rfl, by have := h.2; exact_mod_cast this⟩
theorem Gd.mod {n : Nat} {x : Int} (h : Gd n x) : x % 2 ^ n = x := Int.emod_eq_of_lt h.1 h.2
theorem and_most {n : Nat} {x : Int} (h : Gd n x) : Builtin.bitAnd x (2 ^ n - 1) = x := by
  have e : Builtin.bitAnd x (2 ^ n - 1) = x % 2 ^ n := PySem.W.kbt_mask x n
  rw [e, h.mod]
theorem and_comm' {x y : Int} (hx : 0 ≤ x) (hy : 0 ≤ y) : Builtin.bitAnd x y = Builtin.bitAnd y x := by
  obtain ⟨a, rfl⟩ := Int.eq_ofNat_of_zero_le hx
  obtain ⟨b, rfl⟩ := Int.eq_ofNat_of_zero_le hy
  rw [and_nat, and_nat, Nat.and_comm]
theorem or_comm' {x y : Int} (hx : 0 ≤ x) (hy : 0 ≤ y) : Builtin.bitOr x y = Builtin.bitOr y x := by
  obtain ⟨a, rfl⟩ := Int.eq_ofNat_of_zero_le hx
  obtain ⟨b, rfl⟩ := Int.eq_ofNat_of_zero_le hy
  rw [or_nat, or_nat, Nat.or_comm]
theorem xor_comm' {x y : Int} (hx : 0 ≤ x) (hy : 0 ≤ y) : Builtin.bitXor x y = Builtin.bitXor y x := by
  obtain ⟨a, rfl⟩ := Int.eq_ofNat_of_zero_le hx
  obtain ⟨b, rfl⟩ := Int.eq_ofNat_of_zero_le hy
  rw [xor_nat, xor_nat, Nat.xor_comm]
theorem op_comm {n : Nat} {o : Op} {x y : Int} (h : either o = true) (hx : Gd n x) (hy : Gd n y) : opI n o x y = opI n o y x := by
  cases o <;> simp only [opI] <;> first | (cases h) | skip
  · rw [Int.add_comm]
  · exact and_comm' hx.1 hy.1
  · exact or_comm' hx.1 hy.1
  · exact xor_comm' hx.1 hy.1
  · by_cases e : x = y
    · subst e; rfl
    · rw [if_neg e, if_neg (fun z => e z.symm)]
theorem or_zero' {x : Int} (hx : 0 ≤ x) : Builtin.bitOr x 0 = x ∧ Builtin.bitOr 0 x = x := by
  obtain ⟨a, rfl⟩ := Int.eq_ofNat_of_zero_le hx
  have h1 := or_nat a 0
  have h2 := or_nat 0 a
  simp at h1 h2
  exact ⟨h1, h2⟩
theorem xor_zero' {x : Int} (hx : 0 ≤ x) : Builtin.bitXor x 0 = x ∧ Builtin.bitXor 0 x = x := by
  obtain ⟨a, rfl⟩ := Int.eq_ofNat_of_zero_le hx
  have h1 := xor_nat a 0
  have h2 := xor_nat 0 a
  simp at h1 h2
  exact ⟨h1, h2⟩
theorem and_zero' {x : Int} (hx : 0 ≤ x) : Builtin.bitAnd x 0 = 0 ∧ Builtin.bitAnd 0 x = 0 := by
  obtain ⟨a, rfl⟩ := Int.eq_ofNat_of_zero_le hx
  have h1 := and_nat a 0
  have h2 := and_nat 0 a
  simp at h1 h2
  exact ⟨h1, h2⟩
theorem self_bits {x : Int} (hx : 0 ≤ x) : Builtin.bitAnd x x = x ∧ Builtin.bitOr x x = x ∧ Builtin.bitXor x x = 0 := by
  obtain ⟨a, rfl⟩ := Int.eq_ofNat_of_zero_le hx
  rw [and_nat, or_nat, xor_nat]
  simp
def shSays (n : Nat) (o : Op) (x y : Int) : Sh → Prop
  | .one => opI n o x y = x | .other => opI n o x y = y | .zero => opI n o x y = 0 | .unit => opI n o x y = 1 | .no => True
theorem twice_sound {n : Nat} {o : Op} {x : Int} (hx : Gd n x) : o ≠ .and → shSays n o x x (shTwice o) := by
  intro ho
  have s := self_bits hx.1
  cases o <;> simp [shTwice, shSays, opI, s] <;> exact ho rfl
theorem short_sound {n : Nat} {o : Op} {fa fb : Option Int} {eq : Bool} {x y : Int} (hx : Gd n x) (hy : Gd n y) (ha : ∀ v, fa = some v → x = v) (hb : ∀ v, fb = some v → y = v) (he : eq = true → x = y) : shSays n o x y (shortR o fa fb eq (2 ^ n - 1)) := by
  unfold shortR
  split
  · rename_i h
    obtain ⟨h1, h2⟩ := h
    have e := ha 0 h2
    subst e
    rcases h1 with rfl | rfl | rfl
    · show (0 + y) % 2 ^ n = y; rw [Int.zero_add, hy.mod]
    · exact (or_zero' hy.1).2
    · exact (xor_zero' hy.1).2
  split
  · rename_i _ h
    obtain ⟨h1, h2⟩ := h
    have e := hb 0 h2
    subst e
    rcases h1 with rfl | rfl | rfl
    · show (x + 0) % 2 ^ n = x; rw [Int.add_zero, hx.mod]
    · exact (or_zero' hx.1).1
    · exact (xor_zero' hx.1).1
  split
  · rename_i ho
    subst ho
    unfold shAnd
    split
    · rename_i h
      rcases h with h | h
      · have e := ha 0 h; subst e; exact (and_zero' hy.1).2
      · have e := hb 0 h; subst e; exact (and_zero' hx.1).1
    split
    · rename_i _ h
      have e := ha _ h; subst e
      show Builtin.bitAnd _ y = y
      rw [and_comm' hx.1 hy.1]; exact and_most hy
    split
    · rename_i _ _ h
      rcases h with h | h
      · have e := hb _ h; subst e; exact and_most hx
      · have e := he h; subst e; exact (self_bits hx.1).1
    · trivial
  split
  · rename_i h
    obtain ⟨h1, h2⟩ := h
    have e := hb 0 h1
    subst e; subst h2
    show (x - 0) % 2 ^ n = x; rw [Int.sub_zero, hx.mod]
  split
  · rename_i h
    obtain ⟨h1, h2⟩ := h
    have e := hb 0 h1
    subst e; subst h2
    show (if x < 0 then (1 : Int) else 0) = 0
    rw [if_neg (by have := hx.1; omega)]
  split
  · rename_i ho _ _ h
    have e := he h
    subst e
    exact twice_sound hx ho
  · trivial
def EnvG (n : Nat) (env : Int → Int) : Prop := ∀ g, Gd n (env g)
theorem evAt_gd {n : Nat} (h1 : 1 ≤ n) {env : Int → Int} (he : EnvG n env) {ps : List Part} (h : Ok n ps) : ∀ k, Gd n (evAt n env ps k) := by
  intro k
  induction k using Nat.strongRecOn with
  | ind k ih =>
    by_cases hk : k < ps.length
    · obtain ⟨p, hp⟩ : ∃ p, ps[k]? = some p := ⟨_, List.getElem?_eq_getElem hk⟩
      rw [evAt_eq h.wf hp]
      cases p with
      | num v => exact h.num _ _ hp
      | get g => exact he g
      | op o a b =>
        have := h.wf _ _ _ _ hp
        exact opI_range h1 (ih a this.1) (ih b this.2)
    · have e : evAt n env ps k = 0 := by
        unfold evAt
        rw [List.getD_eq_getElem?_getD, List.getElem?_eq_none (by rw [evs_len]; omega)]; rfl
      rw [e]; exact ⟨Int.le_refl _, pow_pos' n⟩
theorem wordOf_num {ps : List Part} {a : Nat} {x : Int} (e : wordOf ps a = some x) : ps[a]? = some (.num x) := by
  unfold wordOf at e
  cases q : ps[a]? with
  | none => rw [q] at e; cases e
  | some p =>
    rw [q] at e
    cases p with
    | num v => cases e; rfl
    | get i => cases e
    | op o a b => cases e
theorem wordOf_ev {n : Nat} {env : Int → Int} {ps : List Part} (wf : WF ps) {a : Nat} {x : Int} (e : wordOf ps a = some x) : evAt n env ps a = x := by
  rw [evAt_eq wf (wordOf_num e)]
theorem mk_ev {n : Nat} {env : Int → Int} {ps : List Part} {p : Part} (wf : WF (mk ps p).2) : evAt n env (mk ps p).2 (mk ps p).1 = match p with | .num v => v | .get i => env i | .op o a b => opI n o (evAt n env (mk ps p).2 a) (evAt n env (mk ps p).2 b) := by
  rw [evAt_eq wf (mk_at ps p)]; cases p <;> rfl
theorem fin_ev {n : Nat} (h1 : 1 ≤ n) {env : Int → Int} {ps : List Part} (h : Ok n ps) {o : Op} {a b : Nat} (ha : a < ps.length) (hb : b < ps.length) {s : Sh} (hs : shSays n o (evAt n env ps a) (evAt n env ps b) s) :
    evAt n env (fin ps o a b s).2 (fin ps o a b s).1 = opI n o (evAt n env ps a) (evAt n env ps b) := by
  have wf := (ok_fin h1 h (o := o) ha hb s).wf
  cases s with
  | one => exact hs.symm
  | other => exact hs.symm
  | zero => exact (mk_ev wf).trans hs.symm
  | unit => exact (mk_ev wf).trans hs.symm
  | no =>
    refine (mk_ev wf).trans ?_
    show opI n o (evAt n env (mk ps (.op o a b)).2 a) (evAt n env (mk ps (.op o a b)).2 b) = _
    rw [evAt_pre (mk_pre _ _) ha, evAt_pre (mk_pre _ _) hb]
theorem mApply_ev {n : Nat} (h1 : 1 ≤ n) {env : Int → Int} (he : EnvG n env) {ps : List Part} (h : Ok n ps) {o : Op} {a b : Nat} (ha : a < ps.length) (hb : b < ps.length) :
    evAt n env (mApply n ps o a b).2 (mApply n ps o a b).1 = opI n o (evAt n env ps a) (evAt n env ps b) := by
  have ga := evAt_gd h1 he h a
  have gb := evAt_gd h1 he h b
  have okm := ok_mApply h1 h (o := o) ha hb
  unfold mApply at okm ⊢
  split
  · rename_i x y ea eb
    rw [ea, eb] at okm
    rw [wordOf_ev h.wf ea, wordOf_ev h.wf eb]
    exact mk_ev okm.wf
  · clear okm
    split
    · rename_i hc
      rw [fin_ev h1 h hb ha (short_sound gb ga (fun v e => wordOf_ev h.wf e) (fun v e => wordOf_ev h.wf e) fun e => by rw [of_decide_eq_true e])]
      exact op_comm hc.1 gb ga
    · exact fin_ev h1 h ha hb (short_sound ga gb (fun v e => wordOf_ev h.wf e) (fun v e => wordOf_ev h.wf e) fun e => by rw [of_decide_eq_true e])
/-! ### rows made have the words of the rows -/
theorem evs_getD (n : Nat) (env : Int → Int) (ps : List Part) (k : Nat) : (evs n env ps).getD k 0 = evAt n env ps k := rfl
theorem mAll_ev {n u : Nat} (h1 : 1 ≤ n) {plain : Bool} {rs : List Part} (h : Rows n u plain rs) {env : Int → Int} (he : EnvG n env) : ∀ j, j ≤ rs.length → ∀ k, k < j → evAt n env (mAll n (rs.take j)).1 ((mAll n (rs.take j)).2.getD k 0) = evAt n env rs k := by
  intro j
  induction j with
  | zero => intro _ k hk; omega
  | succ j ih =>
    intro hj k hk
    obtain ⟨r, hr⟩ : ∃ p, rs[j]? = some p := ⟨_, List.getElem?_eq_getElem (by omega)⟩
    have hl : (rs.take j).length = j := by rw [List.length_take]; omega
    have inv := mAll_inv h1 h j
    have rk : RowOk n u plain (rs.take j).length r := by rw [hl]; exact rowOk_at h hr
    obtain ⟨st1, st2, st3⟩ := inv.step h1 rk
    have hin := inv.rowIn rk
    have pl : (mAll n (rs.take j)).2.length = j := by rw [inv.plen, hl]
    rw [take_snoc hr, mAll_snoc]
    have old : ∀ i, i < j → evAt n env (mStep n (mAll n (rs.take j)) r).1 ((mAll n (rs.take j)).2.getD i 0) = evAt n env rs i := fun i hi => by
      rw [evAt_pre st2 (by rw [List.getD_eq_getElem?_getD, List.getElem?_eq_getElem (by omega)]; exact inv.there _ (List.getElem_mem (by omega)))]
      exact ih (by omega) i hi
    have e2 : (mStep n (mAll n (rs.take j)) r).2 = (mAll n (rs.take j)).2 ++ [(mPart n (mAll n (rs.take j)).1 r (mAll n (rs.take j)).2).1] := rfl
    rw [e2]
    by_cases hkj : k < j
    · rw [List.getD_eq_getElem?_getD, List.getElem?_append_left (by omega), ← List.getD_eq_getElem?_getD]
      exact old k hkj
    · have ek : k = j := by omega
      subst ek
      rw [List.getD_eq_getElem?_getD, List.getElem?_append_right (by omega), pl, Nat.sub_self]
      show evAt n env (mPart n (mAll n (rs.take k)).1 r (mAll n (rs.take k)).2).2 (mPart n (mAll n (rs.take k)).1 r (mAll n (rs.take k)).2).1 = _
      rw [evAt_eq h.ok.wf hr]
      cases r with
      | num v => exact mk_ev st1.rows.ok.wf
      | get g => exact mk_ev st1.rows.ok.wf
      | op o a b =>
        obtain ⟨ha, hb⟩ := hin.ahead o a b rfl
        have ab := h.ok.wf _ _ _ _ hr
        show evAt n env (mApply n _ o _ _).2 (mApply n _ o _ _).1 = opI n o _ _
        rw [mApply_ev h1 he inv.rows.ok (hin.at ha) (hin.at hb), ih (by omega) a ab.1, ih (by omega) b ab.2]
theorem mAll_words {n u : Nat} (h1 : 1 ≤ n) {plain : Bool} {rs : List Part} (h : Rows n u plain rs) {env : Int → Int} (he : EnvG n env) {k : Nat} (hk : k < rs.length) : evAt n env (mAll n rs).1 ((mAll n rs).2.getD k 0) = evAt n env rs k := by
  have := mAll_ev h1 h he rs.length (Nat.le_refl _) k hk
  rw [List.take_length] at this
  exact this
theorem gd_mod (m : Nat) (x : Int) : Gd m (x % 2 ^ m) := ⟨Int.emod_nonneg _ (by have := pow_pos' m; omega), Int.emod_lt_of_pos _ (pow_pos' m)⟩
theorem hab_take {ps : List Part} (wf : WF ps) {i : Nat} {ks : List Nat} (hr : ReachL ps i ks) {j k : Nat} {p : Part} (hkj : ks[j]? = some k) (hp : ps[k]? = some p) : ∀ o a b, p = Part.op o a b → a ∈ ks.take j ∧ b ∈ ks.take j := fun o a b e => by
  subst e
  have hkr := (hr.mem k).mp (List.mem_of_getElem? hkj)
  have := wf _ _ _ _ hp
  exact ⟨asc_take hr.asc hkj ((hr.mem a).mpr (.left hkr hp)) this.1, asc_take hr.asc hkj ((hr.mem b).mpr (.right hkr hp)) this.2⟩
theorem env0 (n : Nat) : EnvG n (fun _ => 0) := fun _ => ⟨Int.le_refl _, pow_pos' n⟩
theorem reach_len {ps : List Part} {i : Nat} {ks : List Nat} (wf : WF ps) (hr : ReachL ps i ks) (hi : i < ps.length) : ks.length ≤ ps.length :=
  nodup_lt (hr.asc.imp fun h => Nat.ne_of_lt h) fun k hk => by have := ((hr.mem k).mp hk).le wf; omega
theorem env_of {n : Nat} {ws : List Int} (h : ∀ x ∈ ws, 0 ≤ x ∧ x < 2 ^ n) : EnvG n (envOf ws) := fun g => by
  unfold envOf
  rw [List.getD_eq_getElem?_getD]
  cases e : ws[g.toNat]? with
  | none => exact ⟨Int.le_refl _, pow_pos' n⟩
  | some x => exact h x (List.mem_of_getElem? e)
theorem idxOf_pre {p : Part} : ∀ {st F : List Part}, st <+: F → p ∈ st → F.idxOf p = st.idxOf p
  | [], _, _, h => by simp at h
  | x :: st, F, hp, h => by
    obtain ⟨t, rfl⟩ := hp
    rw [List.cons_append, List.idxOf_cons, List.idxOf_cons]
    by_cases e : x = p
    · subst e; simp
    · have e' : (x == p) = false := by simpa using e
      rw [e', cond_false, cond_false, idxOf_pre (List.prefix_append _ _) ((List.mem_cons.mp h).resolve_left fun z => e z.symm)]
theorem idxOf_last {p : Part} : ∀ {st : List Part}, p ∉ st → (st ++ [p]).idxOf p = st.length
  | [], _ => by simp
  | x :: st, h => by
    have e : ¬ x = p := fun e => h (e ▸ List.mem_cons_self)
    have e' : (x == p) = false := by simpa using e
    rw [List.cons_append, List.idxOf_cons, e', cond_false, idxOf_last fun z => h (List.mem_cons_of_mem _ z)]; rfl
theorem mk_again {st F : List Part} {p : Part} (h : (mk st p).2 <+: F) : mk F p = ((mk st p).1, F) := by
  unfold mk at h ⊢
  by_cases hm : p ∈ st
  · rw [if_pos hm] at h ⊢
    rw [if_pos (h.subset hm), idxOf_pre h hm]
  · rw [if_neg hm] at h ⊢
    have hf : p ∈ F := h.subset (by simp)
    rw [if_pos hf, idxOf_pre h (by simp), idxOf_last hm]
theorem fin_again {st F : List Part} {o : Op} {a b : Nat} {s : Sh} (h : (fin st o a b s).2 <+: F) : fin F o a b s = ((fin st o a b s).1, F) := by
  cases s
  · rfl
  · rfl
  · exact mk_again h
  · exact mk_again h
  · exact mk_again h
theorem wordOf_pre {st F : List Part} (h : st <+: F) {a : Nat} (ha : a < st.length) : wordOf F a = wordOf st a := by
  obtain ⟨t, rfl⟩ := h
  unfold wordOf
  rw [List.getElem?_append_left ha]
theorem mApply_again {m : Nat} {st F : List Part} {o : Op} {a b : Nat} (ha : a < st.length) (hb : b < st.length) (h : (mApply m st o a b).2 <+: F) : mApply m F o a b = ((mApply m st o a b).1, F) := by
  have hp : st <+: F := (mApply_pre m st o a b).trans h
  unfold mApply at h ⊢
  rw [wordOf_pre hp ha, wordOf_pre hp hb]
  cases hx : wordOf st a with
  | none =>
    rw [hx] at h
    simp only at h ⊢
    split at h
    · rename_i c; rw [if_pos c, if_pos c]; exact fin_again h
    · rename_i c; rw [if_neg c, if_neg c]; exact fin_again h
  | some x =>
    cases hy : wordOf st b with
    | none =>
      rw [hx, hy] at h
      simp only at h ⊢
      split at h
      · rename_i c; rw [if_pos c, if_pos c]; exact fin_again h
      · rename_i c; rw [if_neg c, if_neg c]; exact fin_again h
    | some y =>
      rw [hx, hy] at h
      exact mk_again h
/-- a row asked for once more -/
theorem mPart_again {n : Nat} {ps : List Part} {r : Part} {pl : List Nat} (h : RowIn n ps r pl) : mPart n (mPart n ps r pl).2 r pl = ((mPart n ps r pl).1, (mPart n ps r pl).2) := by
  cases r with
  | num v => exact mk_again (List.prefix_refl _)
  | get g => exact mk_again (List.prefix_refl _)
  | op o a b =>
    obtain ⟨ha, hb⟩ := h.ahead o a b rfl
    exact mApply_again (h.at ha) (h.at hb) (List.prefix_refl _)
theorem mPart_pre {n : Nat} {ps : List Part} {r : Part} {pl : List Nat} : ps <+: (mPart n ps r pl).2 := by
  cases r with
  | num v => exact mk_pre _ _
  | get g => exact mk_pre _ _
  | op o a b => exact mApply_pre _ _ _ _ _
theorem mPart_len {n : Nat} {ps : List Part} {r : Part} {pl : List Nat} : (mPart n ps r pl).2.length ≤ ps.length + 1 := by
  cases r with
  | num v => exact mk_len _ _
  | get g => exact mk_len _ _
  | op o a b => exact mApply_len _ _ _ _ _
theorem RowIn.more {n : Nat} {ps qs : List Part} {r : Part} {pl : List Nat} (h : RowIn n ps r pl) (p : ps <+: qs) : RowIn n qs r pl :=
  ⟨h.ahead, fun k hk => Nat.lt_of_lt_of_le (h.there k hk) p.length_le, h.ok⟩
/-! ### parts put in for unknowns -/
def fstepR (n : Nat) (ps : List Part) (pl : List Nat) (st : List Part × List (Nat × Nat)) (k : Nat) : Nat × List Part := match ps[k]? with
  | some (.op o a b) => mApply n st.1 o (look st.2 a) (look st.2 b)
  | some (.get i) => if i < pl.length then (pl.getD i.toNat 0, st.1) else (k, st.1)
  | _ => (k, st.1)
def fstep (n : Nat) (ps : List Part) (pl : List Nat) (st : List Part × List (Nat × Nat)) (k : Nat) : List Part × List (Nat × Nat) := ((fstepR n ps pl st k).2, st.2 ++ [(k, (fstepR n ps pl st k).1)])
def mFill (n : Nat) (ps : List Part) (pl ks : List Nat) : List Part × List (Nat × Nat) := ks.foldl (fstep n ps pl) (ps, [])
theorem mFill_snoc (n : Nat) (ps : List Part) (pl ks : List Nat) (k : Nat) : mFill n ps pl (ks ++ [k]) = fstep n ps pl (mFill n ps pl ks) k := by unfold mFill; rw [List.foldl_append]; rfl
def movE (n : Nat) (env : Int → Int) (ps : List Part) (pl : List Nat) : Int → Int := fun g => if g < pl.length then evAt n env ps (pl.getD g.toNat 0) else env g
theorem movE_gd {n : Nat} (n1 : 1 ≤ n) {env : Int → Int} (he : EnvG n env) {ps : List Part} (ok : Ok n ps) (pl : List Nat) : EnvG n (movE n env ps pl) := fun g => by
  unfold movE; split
  · exact evAt_gd n1 he ok _
  · exact he g
structure FInv (n u : Nat) (ps : List Part) (pl : List Nat) (done : List Nat) (st : List Part × List (Nat × Nat)) : Prop where
  keys : st.2.map (fun (x : Nat × Nat) => x.1) = done
  lt : ∀ x : Nat × Nat, x ∈ st.2 → x.2 < st.1.length
  len : st.1.length ≤ ps.length + done.length
  rows : Rows n u false st.1
  pre : ps <+: st.1
  sem : ∀ env : Int → Int, EnvG n env → ∀ k ∈ done, evAt n env st.1 (look st.2 k) = evAt n (movE n env ps pl) ps k
theorem FInv.look {n u : Nat} {ps : List Part} {pl : List Nat} {done : List Nat} {st : List Part × List (Nat × Nat)} (c : FInv n u ps pl done st) {a : Nat} (h : a ∈ done) : My.look st.2 a < st.1.length :=
  c.lt _ (look_mem (by rw [c.keys]; exact h))
theorem FInv.start {n u : Nat} {ps : List Part} {pl : List Nat} (h : Rows n u false ps) : FInv n u ps pl [] (ps, []) := ⟨rfl, fun _ m => by simp at m, Nat.le_refl _, h, List.prefix_refl _, fun _ _ k h => by simp at h⟩
theorem FInv.step {n u : Nat} (n1 : 1 ≤ n) {ps : List Part} {pl : List Nat} {done : List Nat} {st : List Part × List (Nat × Nat)} {k : Nat} {p : Part} (hr : Rows n u false ps) (hpl : ∀ i ∈ pl, i < ps.length) (c : FInv n u ps pl done st) (hp : ps[k]? = some p) (hnd : k ∉ done)
    (hab : ∀ o a b, p = Part.op o a b → a ∈ done ∧ b ∈ done) : FInv n u ps pl (done ++ [k]) (fstep n ps pl st k) := by
  have hk := (List.getElem?_eq_some_iff.mp hp).1
  have kl := c.pre.length_le
  have key : (fstepR n ps pl st k).1 < (fstepR n ps pl st k).2.length ∧ (fstepR n ps pl st k).2.length ≤ st.1.length + 1 ∧ Rows n u false (fstepR n ps pl st k).2 ∧ st.1 <+: (fstepR n ps pl st k).2 ∧
      ∀ env : Int → Int, EnvG n env → evAt n env (fstepR n ps pl st k).2 (fstepR n ps pl st k).1 = evAt n (movE n env ps pl) ps k := by
    cases p with
    | num v =>
      have er : fstepR n ps pl st k = (k, st.1) := by unfold fstepR; rw [hp]
      rw [er]
      refine ⟨by show k < st.1.length; omega, Nat.le_succ _, c.rows, List.prefix_refl _, fun env he => ?_⟩
      rw [evAt_pre c.pre hk, evAt_eq hr.ok.wf hp, evAt_eq hr.ok.wf hp]
    | get g =>
      by_cases hg : g < pl.length
      · have er : fstepR n ps pl st k = (pl.getD g.toNat 0, st.1) := by unfold fstepR; rw [hp]; exact if_pos hg
        have g0 := (hr.ok.get _ _ hp).1
        have hm : pl.getD g.toNat 0 < ps.length := by
          rw [List.getD_eq_getElem?_getD, List.getElem?_eq_getElem (by omega)]
          exact hpl _ (List.getElem_mem (by omega))
        rw [er]
        refine ⟨by show pl.getD g.toNat 0 < st.1.length; omega, Nat.le_succ _, c.rows, List.prefix_refl _, fun env he => ?_⟩
        rw [evAt_pre c.pre hm, evAt_eq (env := movE n env ps pl) hr.ok.wf hp]
        show _ = movE n env ps pl g
        unfold movE; rw [if_pos hg]
      · have er : fstepR n ps pl st k = (k, st.1) := by unfold fstepR; rw [hp]; exact if_neg hg
        rw [er]
        refine ⟨by show k < st.1.length; omega, Nat.le_succ _, c.rows, List.prefix_refl _, fun env he => ?_⟩
        rw [evAt_pre c.pre hk, evAt_eq hr.ok.wf hp, evAt_eq hr.ok.wf hp]
        show env g = movE n env ps pl g
        unfold movE; rw [if_neg hg]
    | op o a b =>
      obtain ⟨ha, hb⟩ := hab o a b rfl
      have er : fstepR n ps pl st k = mApply n st.1 o (My.look st.2 a) (My.look st.2 b) := by unfold fstepR; rw [hp]
      rw [er]
      refine ⟨mApply_lt (c.look ha) (c.look hb), mApply_len _ _ _ _ _, rows_mApply n1 c.rows (c.look ha) (c.look hb) (fun q => by cases q), mApply_pre _ _ _ _ _, fun env he => ?_⟩
      rw [mApply_ev n1 he c.rows.ok (c.look ha) (c.look hb), c.sem env he a ha, c.sem env he b hb, evAt_eq (env := movE n env ps pl) hr.ok.wf hp]
  have es : (fstep n ps pl st k).2 = st.2 ++ [(k, (fstepR n ps pl st k).1)] := rfl
  have es1 : (fstep n ps pl st k).1 = (fstepR n ps pl st k).2 := rfl
  refine ⟨?_, fun x hx => ?_, ?_, key.2.2.1, c.pre.trans key.2.2.2.1, fun env he z hz => ?_⟩
  · rw [es, List.map_append, c.keys]; rfl
  · rw [es] at hx
    rcases List.mem_append.mp hx with hx | hx
    · have := c.lt x hx
      have := key.2.2.2.1.length_le
      rw [es1]; omega
    · simp at hx; subst hx; exact key.1
  · rw [es1, List.length_append, List.length_singleton]
    have := c.len; have := key.2.1; omega
  · rw [es, es1]
    rcases List.mem_append.mp hz with hz | hz
    · rw [look_snoc_old _ (by rw [c.keys]; exact hz), evAt_pre key.2.2.2.1 (c.look hz)]
      exact c.sem env he z hz
    · simp at hz; subst hz
      rw [look_snoc_new (by rw [c.keys]; exact hnd)]
      exact key.2.2.2.2 env he
theorem fill_inv {n u : Nat} (n1 : 1 ≤ n) {ps : List Part} {pl : List Nat} {i : Nat} {ks : List Nat} (hr : Rows n u false ps) (hpl : ∀ i ∈ pl, i < ps.length) (hk : ReachL ps i ks) (hi : i < ps.length) : ∀ j, FInv n u ps pl (ks.take j) (mFill n ps pl (ks.take j)) := by
  intro j
  induction j with
  | zero => rw [List.take_zero]; exact FInv.start hr
  | succ j ih =>
    by_cases hj : j < ks.length
    · obtain ⟨k, e⟩ : ∃ k, ks[j]? = some k := ⟨_, List.getElem?_eq_getElem hj⟩
      have hkl : k < ps.length := by have := ((hk.mem k).mp (List.mem_of_getElem? e)).le hr.ok.wf; omega
      obtain ⟨p, hp⟩ : ∃ p, ps[k]? = some p := ⟨_, List.getElem?_eq_getElem hkl⟩
      rw [take_snoc e, mFill_snoc]
      exact ih.step n1 hr hpl hp (not_in_take hk.asc e) (hab_take hr.ok.wf hk e hp)
    · rw [List.take_of_length_le (by omega)]
      rw [List.take_of_length_le (by omega)] at ih
      exact ih
/-- words depend on the unknowns there are alone -/
theorem evs_congr {n : Nat} {e1 e2 : Int → Int} : ∀ ps : List Part, (∀ (k : Nat) (g : Int), ps[k]? = some (Part.get g) → e1 g = e2 g) → evs n e1 ps = evs n e2 ps := by
  refine snoc_ind (C := fun ps => (∀ (k : Nat) (g : Int), ps[k]? = some (Part.get g) → e1 g = e2 g) → evs n e1 ps = evs n e2 ps) (fun _ => rfl) (fun l x ih h => ?_)
  have ih := ih fun k g e => h k g (by rw [List.getElem?_append_left (List.getElem?_eq_some_iff.mp e).1]; exact e)
  rw [evs_snoc, evs_snoc, ih]
  cases x with
  | num v => rfl
  | op o a b => rfl
  | get g =>
    have := h l.length g (by rw [List.getElem?_append_right (Nat.le_refl _), Nat.sub_self]; rfl)
    show _ ++ [e1 g] = _ ++ [e2 g]
    rw [this]
theorem evAt_congr {n : Nat} {e1 e2 : Int → Int} {ps : List Part} (h : ∀ (k : Nat) (g : Int), ps[k]? = some (Part.get g) → e1 g = e2 g) (k : Nat) : evAt n e1 ps k = evAt n e2 ps k := by
  unfold evAt; rw [evs_congr ps h]
end My

/-! J -/
namespace My
open PySem L2
local macro_rules | `(tactic| walk_at "side") => `(tactic| first | with_reducible rfl | assumption | rfl | decide | omega | exact cpow1 (by omega) (by omega) | exact cdiv (by omega) (by omega) | exact two_pos _ | exact SqL.of (by assumption) | exact SqT.of (by assumption) | exact TyX.base (TyOf.int _) | exact TyX.base (TyOf.bl _) | exact TyX.base TyOf.non | exact scal_opt _ _ | exact k_ii | exact k_bi | exact k_ni | exact k_ib | exact k_bb | exact TyX.base (TyOf.lst (by assumption)) | exact k_ll | exact k_lt)
local macro_rules | `(tactic| walk_at "p") => `(tactic| repeat (first | refine And.intro (by walk_at "side") ?_ | apply Exists.intro | refine iteN (by assumption) ?_ | refine iteP (by assumption) ?_ | refine iteN (by decide) ?_ | refine iteP (by decide) ?_))

section
variable {P : Program} {w : World} {K : PySem.W.Frag} {mg : Str → Option Value} {base : Heap}
theorem Row.sq {H : Hp} {q : Addr} {xs : List V} (h : Row H q xs) : SqL K H q xs ∨ SqT K H q xs := h.elim (fun z => .inl (SqL.of z)) fun z => .inr (SqT.of z)
theorem rowIx {H : Hp} {q : Addr} {xs : List V} {i : Int} {v : V} {Q : VK} (h : Row H q xs) (e : atI xs i = some v) (k : Q v H) : rIx K (.ref q) (.int i) H Q :=
  h.elim (fun z => .inl ⟨_, _, _, _, rfl, rfl, SqL.of z, e, k⟩) fun z => .inr (.inl ⟨_, _, _, _, rfl, rfl, SqT.of z, e, k⟩)
def sp_p_value (T : Txt K mg) : Sp := fun vs H Q _ => ∃ (a l d q : Addr) (n : Nat) (ps : List Part) (i : Nat) (ws : List Int), vs = [.ref a, .int i, .ref q] ∧ PoolAt T.C H a l d n ps ∧ Ok n ps ∧ ps.length ≤ 4000 ∧ n ≤ 12 ∧ i < ps.length ∧ Row H q (ws.map V.int) ∧
  (∀ x ∈ ws, 0 ≤ x ∧ x < 2 ^ n) ∧ (∀ (k : Nat) (g : Int), ps[k]? = some (Part.get g) → g < ws.length) ∧ ∀ H', Same H H' → Q (.int (evAt n (envOf ws) ps i)) H'
theorem sp_p_value_len {T : Txt K mg} {vs H Q E} (h : sp_p_value T vs H Q E) : vs.length = 3 := by obtain ⟨_, _, _, _, _, _, _, _, rfl, _⟩ := h; rfl
theorem ok_p_value (T : Txt K mg) : FnOk P w K mg base (L2.CX P w) 6 T.f_p_value T.fd_p_value ["self", "number", "words"] (sp_p_value T) := by
  have G_p_gets := ok_p_gets (P := P) (w := w) (base := base) T; have G_p_reached := ok_p_reached (P := P) (w := w) (base := base) T; have G_is_int := ok_is_int (P := P) (w := w) (base := base) T; have G_is_row := ok_is_row (P := P) (w := w) (base := base) T; have G_op_word := ok_op_word (P := P) (w := w) (base := base) T
  refine T.F_p_value.okX sc_p_value (fun vs H Q E h => sp_p_value_len h) (fun cdv A outer s H vs Q E hr h => ?_)
  obtain ⟨a, l, d, q, n, ps, i, ws, rfl, hp, ok1, h40, hn, hi, hq, hw, hg, k⟩ := h
  obtain ⟨dx, ho⟩ := id hp.ob
  obtain ⟨xs, hL, ex, hit⟩ := hp.lst.item
  refine ⟨_, (pss_cons (ps_set (i := 3) sc_p_value.nd rfl (Or.inl rfl) (pe_meth (pv 0) T.cl T.m_p_reached G_p_reached hr T.b_p_reached .nil (passes_call (takes_of rfl rfl rfl rfl) (fun _ _ _ _ h => h)) (pa_cons (pv 1) pa_nil)))
       (pss_cons (ps_if (pt_not (pt_val (pe_call G_is_row (hr.mono (by decide)) rfl T.g_is_row T.F_is_row.kp T.b_is_row .nil pass0 (pa_cons (pv 2) pa_nil))))
        (pss_one ps_never)
        pss_nil)
       (pss_cons (ps_for (passes_of rfl) rfl (pi_tup (pe_meth (pv 0) T.cl T.m_p_gets G_p_gets (hr.mono (by decide)) T.b_p_gets .nil pass0 (pa_cons (pv 3) pa_nil))) (pg_name (i := 4) sc_p_value.nd rfl (Or.inl rfl))
        (pss_one (ps_if (PW.pt (pw_or (pt_cmpR op_ge (pv 4) (pe_callB call_len_seq (by rfl) T.n_len (by decide +kernel) (pa_cons (pv 2) pa_nil)) (nomark _)) (pw_or (pt_not (pt_val (pe_call G_is_int (hr.mono (by decide)) rfl T.g_is_int T.F_is_int.kp T.b_is_int .nil pass0 (pa_cons (pe_ix ix_seq (pv 2) (pv 4) (fun _ _ => rfl)) pa_nil)))) (pw_or (pt_cmpR op_lt (pe_ix ix_seq (pv 2) (pv 4) (fun _ _ => rfl)) pe_int (nomark _)) (pw_or1 (pt_cmpR op_gt (pe_ix ix_seq (pv 2) (pv 4) (fun _ _ => rfl)) (pe_fldA (pv 0)) (nomark _)))))))
        (pss_one ps_never)
        pss_nil)))
       (pss_cons (ps_set (i := 5) sc_p_value.nd rfl (Or.inl rfl) pe_dnewK)
       (pss_cons (ps_for (passes_of rfl) rfl (pi_tup (pv 3)) (pg_name (i := 6) sc_p_value.nd rfl (Or.inl rfl))
        (pss_cons (ps_set (i := 7) sc_p_value.nd rfl (Or.inl rfl) (pe_ix ix_list (pe_fldA (pv 0)) (pv 6) (fun _ _ => rfl)))
       (pss_one (ps_if (pt_cmpR op_eq (pe_ix ix_tup (pv 7) pe_int (fun _ _ => rfl)) pe_str (nomark _))
        (pss_one (ps_dput (hu_of hr) (pv 5) (pv 6) (pe_ix ix_tup (pv 7) pe_int (fun _ _ => rfl)) rfl))
        (pss_one (ps_if (pt_cmpR op_eq (pe_ix ix_tup (pv 7) pe_int (fun _ _ => rfl)) pe_str (nomark _))
        (pss_one (ps_dput (hu_of hr) (pv 5) (pv 6) (pe_ix ix_seq (pv 2) (pe_ix ix_tup (pv 7) pe_int (fun _ _ => rfl)) (fun _ _ => rfl)) rfl))
        (pss_one (ps_dput (hu_of hr) (pv 5) (pv 6) (pe_call G_op_word (hr.mono (by decide)) rfl T.g_op_word T.F_op_word.kp T.b_op_word .nil pass0 (pa_cons (pe_ix ix_tup (pv 7) pe_int (fun _ _ => rfl)) (pa_cons (pe_dget (hu_of hr) (pv 5) (pe_ix ix_tup (pv 7) pe_int (fun _ _ => rfl)) (fun _ _ => rfl)) (pa_cons (pe_dget (hu_of hr) (pv 5) (pe_ix ix_tup (pv 7) pe_int (fun _ _ => rfl)) (fun _ _ => rfl)) (pa_cons (pe_fldA (pv 0)) pa_nil))))) rfl))))))))
       (pss_one (ps_ret (pe_dget (hu_of hr) (pv 5) (pv 1) (fun _ _ => rfl))))))))), ?_⟩
  refine ⟨_, rfl, a, dx, _, rfl, ho, no_meth (by decide +kernel), _, rfl, a, l, d, n, ps, _, rfl, hp, rfl, ok1.wf, h40, fun i' ei _ t H1 ks hr s1 ht ht1 => ?_, fun z => absurd (good_of hi) z⟩
  have ei' : i = i' := by injection ei with ei; omega
  subst ei'
  have ksl : ks.length ≤ ps.length := nodup_lt (hr.asc.imp fun h => Nat.ne_of_lt h) fun k hk => by have := ((hr.mem k).mp hk).le ok1.wf; omega
  have sz : sizeLine = 16777216 := sizeLine_eq
  -- if not is_row(words): raise
  refine ⟨_, rfl, .inl ⟨q, _, rfl, hq.news s1, fun H2 s2 => ⟨_, rfl, iteN (by decide) ?_⟩⟩⟩
  have s12 := s1.trans s2
  -- for i in self._gets(numbers): ..
  refine ⟨_, rfl, a, dx, _, rfl, s12 _ _ ho, no_meth (by decide +kernel), _, rfl, a, l, d, t, n, ps, ks, rfl, hp.news s12, s2 _ _ ht1, by omega, fun k hk => (by have := ((hr.mem k).mp hk).le ok1.wf; omega), fun u H3 ns hns0 _ s3 hu hu3 => ?_⟩
  have s13 := s12.trans s3
  have hns : ∀ i ∈ ns, ∃ k ∈ ks, ps[k]? = some (Part.get i) := fun i hi => mem_gets (hns0.mem_iff.mp hi)
  refine ⟨u, rfl, ⟨_, SqT.of hu3⟩, ?_⟩
  refine for_tup (K := K) (a := u) (xs := ns.map V.int) (fun j σ' H4 => H4 = H3 ∧ ∃ v4 : Option V, σ' = [some (.ref a), some (.int (i : Nat)), some (.ref q), some (.ref t), v4, none, none, none]) ⟨rfl, none, rfl⟩ (fun j σ' H4 _ ⟨e, _⟩ => by rw [e]; exact SqT.of hu3) ?_ ?_
  · rintro j y σ' H4 hj ⟨rfl, v4, rfl⟩
    rw [List.getElem?_map] at hj
    obtain ⟨g, hgj, rfl⟩ := Option.map_eq_some_iff.mp hj
    obtain ⟨z, hz, hpz⟩ := hns g (List.mem_of_getElem? hgj)
    have g0 := (ok1.get _ _ hpz).1
    have gl := hg _ _ hpz
    obtain ⟨x, hx⟩ : ∃ x, ws[g.toNat]? = some x := ⟨_, List.getElem?_eq_getElem (by omega)⟩
    have hx2 := hw x (List.mem_of_getElem? hx)
    have hq4 := hq.news s13
    have hat : atI (ws.map V.int) g = some (.int x) := at_of (j := g.toNat) (by omega) (by rw [List.getElem?_map, hx]; rfl)
    refine ⟨_, rfl, _, rfl, q, _, rfl, hq4.sq, _, _, rfl, rfl, _, rfl, iteN (dF (by rw [List.length_map]; omega)) ?_⟩
    refine ⟨_, rfl, _, rfl, rowIx hq4 hat ⟨_, rfl, rfl, _, rfl, iteN (by show ¬ (!true) = true; decide) ?_⟩⟩
    refine ⟨_, rfl, _, rfl, rowIx hq4 hat ⟨_, _, rfl, rfl, _, rfl, iteN (dF (by omega)) ?_⟩⟩
    refine ⟨_, rfl, _, rfl, rowIx hq4 hat ⟨_, rfl, a, T.C, dx, _, _, rfl, s13 _ _ ho, T.cl, T.nA__most, look_most _ _ _, _, _, rfl, rfl, _, rfl, iteN (dF (by omega)) ?_⟩⟩
    exact ⟨rfl, _, rfl⟩
  rintro σ' H4 ⟨rfl, v4, rfl⟩
  -- found = {}
  intro D hD
  have hD0 : H D = none := s13.free hD
  have tD : t ≠ D := ne_of_none (s3 _ _ (s2 _ _ ht1)) hD
  have s4 : Same H (upd H4 D (.dK [])) := s13.trans (same_new hD)
  refine ⟨_, rfl, t, rfl, ⟨_, SqT.of (by rw [upd_ne tD]; exact s3 _ _ (s2 _ _ ht1))⟩, ?_⟩
  refine for_tup (K := K) (a := t) (xs := natL ks) (fun j σ' H5 => ∃ v6 v7 : Option V, σ' = [some (.ref a), some (.int (i : Nat)), some (.ref q), some (.ref t), v4, some (.ref D), v6, v7] ∧ Same H H5 ∧
    H5 t = some (.tup (natL ks)) ∧ H5 D = some (.dK (dv (evAt n (envOf ws) ps) (ks.take j)))) ?_ ?_ ?_ ?_
  · exact ⟨none, none, rfl, s4, by rw [upd_ne tD]; exact s3 _ _ (s2 _ _ ht1), upd_same⟩
  · rintro j σ' H5 _ ⟨_, _, _, _, h, _⟩
    exact SqT.of h
  · rintro j y σ' H5 hj ⟨v6, v7, rfl, s5, hT5, hD5⟩
    obtain ⟨k', hkj, rfl⟩ := natL_get hj
    have hk0 := List.mem_of_getElem? hkj
    have hkr := (hr.mem k').mp hk0
    have hkn : k' < ps.length := by have := hkr.le ok1.wf; omega
    obtain ⟨p, hpk⟩ : ∃ p, ps[k']? = some p := ⟨_, List.getElem?_eq_getElem hkn⟩
    obtain ⟨t7, ht7, hT7⟩ := hit k' p hpk
    have ev := evAt_eq (w := n) (env := envOf ws) ok1.wf hpk
    have hz : (dv (evAt n (envOf ws) ps) (ks.take j)).length < sizeLine := by rw [dv_len, List.length_take]; omega
    have hT7' := s5 _ _ hT7
    have close : ∀ v6 v7 : Option V, ∃ v6' v7' : Option V, [some (V.ref a), some (.int (i : Nat)), some (.ref q), some (.ref t), v4, some (.ref D), v6, v7] = [some (V.ref a), some (.int (i : Nat)), some (.ref q), some (.ref t), v4, some (.ref D), v6', v7'] ∧
        Same H (upd H5 D (.dK (putK (dv (evAt n (envOf ws) ps) (ks.take j)) (Sum.inl ((k' : Nat) : Int)) (.int (evAt n (envOf ws) ps k'))))) ∧
        upd H5 D (.dK (putK (dv (evAt n (envOf ws) ps) (ks.take j)) (Sum.inl ((k' : Nat) : Int)) (.int (evAt n (envOf ws) ps k')))) t = some (.tup (natL ks)) ∧
        upd H5 D (.dK (putK (dv (evAt n (envOf ws) ps) (ks.take j)) (Sum.inl ((k' : Nat) : Int)) (.int (evAt n (envOf ws) ps k')))) D = some (.dK (dv (evAt n (envOf ws) ps) (ks.take (j + 1)))) := by
      intro v6 v7
      refine ⟨v6, v7, rfl, fun b o e => ?_, ?_, ?_⟩
      · rw [upd_ne (ne_of_none e hD0)]; exact s5 _ _ e
      · rw [upd_ne tD]; exact hT5
      · rw [upd_same, dv_put (not_in_take hr.asc hkj), take_snoc hkj]
    have getf : ∀ z, z ∈ ks.take j → DGet H5 D (.int (z : Nat)) (some (.int (evAt n (envOf ws) ps z))) := fun z hz => by
      have dg := DGet.k (k := Sum.inl ((z : Nat) : Int)) hD5
      rw [valV_dv, if_pos hz] at dg
      exact dg
    refine ⟨_, rfl, a, T.C, dx, _, _, rfl, s5 _ _ ho, T.cl, T.nA__parts, look_parts _ _ _, _, rfl, l, xs, _, _, rfl, rfl, SqL.of (s5 _ _ hL), at_of rfl ht7, ?_⟩
    cases p with
    | num v =>
      refine ⟨_, rfl, t7, _, 0, _, rfl, rfl, SqT.of hT7', rfl, rfl, _, rfl, iteP (by decide) ?_⟩
      refine ⟨_, rfl, t7, _, 1, .int v, rfl, rfl, SqT.of hT7', rfl, _, rfl, _, rfl, D, _, rfl, DPut.k (k := Sum.inl ((k' : Nat) : Int)) hD5 hz, ?_⟩
      have ev : evAt n (envOf ws) ps k' = v := ev
      have := close (some (.int (k' : Nat))) (some (.ref t7))
      rw [ev] at this
      exact this
    | get g =>
      have gl := hg _ _ hpk
      have g0 := (ok1.get _ _ hpk).1
      obtain ⟨x, hx⟩ : ∃ x, ws[g.toNat]? = some x := ⟨_, List.getElem?_eq_getElem (by omega)⟩
      refine ⟨_, rfl, t7, _, 0, _, rfl, rfl, SqT.of hT7', rfl, rfl, _, rfl, iteN (by decide) ?_⟩
      refine ⟨_, rfl, t7, _, 0, _, rfl, rfl, SqT.of hT7', rfl, rfl, _, rfl, iteP (by decide) ?_⟩
      refine ⟨_, rfl, _, rfl, t7, _, 1, .int g, rfl, rfl, SqT.of hT7', rfl, rowIx (hq.news s5) (at_of (v := .int x) (j := g.toNat) (by omega) (by rw [List.getElem?_map, hx]; rfl)) ⟨_, rfl, _, rfl, D, _, rfl, DPut.k (k := Sum.inl ((k' : Nat) : Int)) hD5 hz, ?_⟩⟩
      have ev : evAt n (envOf ws) ps k' = x := by rw [ev]; show ws.getD g.toNat 0 = x; rw [List.getD_eq_getElem?_getD, hx]; rfl
      have := close (some (.int (k' : Nat))) (some (.ref t7))
      rw [ev] at this
      exact this
    | op o x y =>
      have wfp := ok1.wf _ _ _ _ hpk
      have hx' := asc_take hr.asc hkj ((hr.mem x).mpr (.left hkr hpk)) wfp.1
      have hy' := asc_take hr.asc hkj ((hr.mem y).mpr (.right hkr hpk)) wfp.2
      refine ⟨_, rfl, t7, _, 0, _, rfl, rfl, SqT.of hT7', rfl, rfl, _, rfl, iteN (op_num_f o) ?_⟩
      refine ⟨_, rfl, t7, _, 0, _, rfl, rfl, SqT.of hT7', rfl, rfl, _, rfl, iteN (op_get_f o) ?_⟩
      refine ⟨_, rfl, t7, _, 0, .str o.s, rfl, rfl, SqT.of hT7', rfl, _, rfl, _, rfl, t7, _, 1, .int (x : Nat), rfl, rfl, SqT.of hT7', rfl, D, _, rfl, getf x hx', _, rfl, _, rfl, t7, _, 2, .int (y : Nat), rfl, rfl, SqT.of hT7', rfl, D, _, rfl, getf y hy',
        _, rfl, a, T.C, dx, _, _, rfl, s5 _ _ ho, T.cl, T.nA_width, look_width _ _ _, o, _, _, n, rfl, hn, ?_⟩
      refine ⟨_, rfl, _, rfl, D, _, rfl, DPut.k (k := Sum.inl ((k' : Nat) : Int)) hD5 hz, ?_⟩
      have ev : evAt n (envOf ws) ps k' = opI n o (evAt n (envOf ws) ps x) (evAt n (envOf ws) ps y) := ev
      have := close (some (.int (k' : Nat))) (some (.ref t7))
      rw [ev] at this
      exact this
  · rintro σ' H5 ⟨v6, v7, rfl, s5, hT5, hD5⟩
    rw [natL_len, List.take_length] at hD5
    have dg := DGet.k (k := Sum.inl ((i : Nat) : Int)) hD5
    rw [valV_dv, if_pos ((hr.mem i).mpr .self)] at dg
    exact ⟨_, rfl, _, rfl, D, _, rfl, dg, k H5 s5⟩
end
end My

/-! I -/
namespace My
open PySem L2
local macro_rules | `(tactic| walk_at "side") => `(tactic| first | with_reducible rfl | assumption | rfl | decide | omega | exact cpow1 (by omega) (by omega) | exact cdiv (by omega) (by omega) | exact two_pos _ | exact SqL.of (by assumption) | exact SqT.of (by assumption) | exact TyX.base (TyOf.int _) | exact TyX.base (TyOf.bl _) | exact TyX.base TyOf.non | exact scal_opt _ _ | exact k_ii | exact k_bi | exact k_ni | exact k_ib | exact k_bb | exact TyX.base (TyOf.lst (by assumption)) | exact k_ll | exact k_lt)
local macro_rules | `(tactic| walk_at "p") => `(tactic| repeat (first | refine And.intro (by walk_at "side") ?_ | apply Exists.intro | refine iteN (by assumption) ?_ | refine iteP (by assumption) ?_ | refine iteN (by decide) ?_ | refine iteP (by decide) ?_))

section
variable {P : Program} {w : World} {K : PySem.W.Frag} {mg : Str → Option Value} {base : Heap}
theorem PoolAt.updK {C : Addr} {H : Hp} {a l d D : Addr} {n : Nat} {ps : List Part} {kvs kvs' : List (Key × V)} (h : PoolAt C H a l d n ps) (hD : H D = some (.dK kvs)) : PoolAt C (upd H D (.dK kvs')) a l d n ps := by
  obtain ⟨dx, ho⟩ := id h.ob
  obtain ⟨ts, hl, _⟩ := id h.lst
  refine h.keep (S := fun b => b = D) (fun b o e hb => by rw [upd_ne hb]; exact e) (ne_of ho hD (by intro z; cases z)) (ne_of hl hD (by intro z; cases z)) (ne_of h.dic hD (by intro z; cases z)) fun t xs e => ne_of e hD (by intro z; cases z)
theorem pre_at {ps qs : List Part} (h : ps <+: qs) {k : Nat} {p : Part} (e : ps[k]? = some p) : qs[k]? = some p := by
  obtain ⟨t, rfl⟩ := h
  rw [List.getElem?_append_left (List.getElem?_eq_some_iff.mp e).1]; exact e
end
end My

/-! LA -/
namespace My
open PySem L2
local macro_rules | `(tactic| walk_at "side") => `(tactic| first | with_reducible rfl | assumption | rfl | decide | omega | exact cpow1 (by omega) (by omega) | exact cdiv (by omega) (by omega) | exact two_pos _ | exact SqL.of (by assumption) | exact SqT.of (by assumption) | exact TyX.base (TyOf.int _) | exact TyX.base (TyOf.bl _) | exact TyX.base TyOf.non | exact scal_opt _ _ | exact k_ii | exact k_bi | exact k_ni | exact k_ib | exact k_bb | exact TyX.base (TyOf.lst (by assumption)) | exact k_ll | exact k_lt)
local macro_rules | `(tactic| walk_at "p") => `(tactic| repeat (first | refine And.intro (by walk_at "side") ?_ | apply Exists.intro | refine iteN (by assumption) ?_ | refine iteP (by assumption) ?_ | refine iteN (by decide) ?_ | refine iteP (by decide) ?_))

/-- the draws at p, their numbers at q -/
def Dr (H : Hp) (p q : Addr) : Prop := ∃ (ns : List Int) (k : Nat), H p = some (.lst [.int k, .ref q]) ∧ H q = some (.lst (ns.map V.int)) ∧ ∀ x ∈ ns, 0 ≤ x
theorem Dr.ne {H : Hp} {p q : Addr} (h : Dr H p q) (hpq : p ≠ q) : True := trivial
theorem Dr.keep {S : Addr → Prop} {H H' : Hp} {p q : Addr} (h : Dr H p q) (k : Keep S H H') (hp : ¬ S p) (hq : ¬ S q) : Dr H' p q := by
  obtain ⟨ns, j, h1, h2, h3⟩ := h
  exact ⟨ns, j, k _ _ h1 hp, k _ _ h2 hq, h3⟩
theorem Dr.news {H H' : Hp} {p q : Addr} (h : Dr H p q) (s : Same H H') : Dr H' p q := h.keep (S := fun _ => False) (fun b o e _ => s b o e) id id
section
variable {P : Program} {w : World} {K : PySem.W.Frag} {mg : Str → Option Value} {base : Heap}
def sp_law_take (T : Txt K mg) : Sp := fun vs H Q _ => ∃ (p q : Addr) (m : Int), vs = [.ref p, .int m] ∧ Dr H p q ∧ p ≠ q ∧ 0 < m ∧ ∀ (H' : Hp) (v : Int), 0 ≤ v → v < m → Dr H' p q → (∀ b o, H b = some o → b ≠ p → H' b = some o) → Q (.int v) H'
theorem sp_law_take_len {T : Txt K mg} {vs H Q E} (h : sp_law_take T vs H Q E) : vs.length = 2 := by obtain ⟨_, _, _, rfl, _⟩ := h; rfl
theorem ok_law_take (T : Txt K mg) : FnOk P w K mg base CX0 1 T.f_law_take T.fd_law_take ["_law_draws_here", "_law_many"] (sp_law_take T) := by
  skip
  refine T.F_law_take.ok sc_law_take (fun vs H Q E h => sp_law_take_len h) (fun cdv A outer s H vs Q E hr h => ?_)
  obtain ⟨p, q, m, rfl, ⟨ns, j, h1, h2, h3⟩, hpq, hm, k⟩ := h
  refine ⟨_, (pss_cons (ps_set (i := 2) sc_law_take.nd rfl (Or.inl rfl) (pe_ix ix_list (pv 0) pe_int (fun _ _ => rfl)))
       (pss_cons (ps_if (pt_cmpR op_ge (pv 2) (pe_callB call_lenL (by rfl) T.n_len (by decide +kernel) (pa_cons (pe_ix ix_list (pv 0) pe_int (fun _ _ => rfl)) pa_nil)) (nomark _))
        (pss_one (ps_ret pe_int))
        pss_nil)
       (pss_cons (ps_asg (pe_op op_add (pv 2) pe_int) (pg_sub (pv 0) pe_int set_list))
       (pss_one (ps_ret (pe_op op_mod (pe_callTy call_intI (by rfl) T.n_int (by decide +kernel) (pa_cons (pe_ix ix_list (pe_ix ix_list (pv 0) pe_int (fun _ _ => rfl)) (pv 2) (fun _ _ => rfl)) pa_nil)) (pv 1))))))), ?_⟩
  refine ⟨_, rfl, p, _, 0, _, rfl, rfl, SqL.of h1, rfl, ?_⟩
  refine ⟨_, rfl, _, rfl, p, _, 1, _, rfl, rfl, SqL.of h1, rfl, q, _, rfl, SqL.of h2, _, _, rfl, rfl, _, rfl, ?_⟩
  by_cases hj : ns.length ≤ j
  · exact iteP (dT (by rw [List.length_map]; omega)) (k H 0 (by omega) hm ⟨ns, j, h1, h2, h3⟩ fun b o e _ => e)
  refine iteN (dF (by rw [List.length_map]; omega)) ?_
  refine ⟨_, rfl, _, _, rfl, rfl, _, rfl, p, _, 0, 0, rfl, rfl, h1, rfl, ?_⟩
  have h1' : upd H p (.lst [.int ((j : Int) + 1), .ref q]) p = some (.lst [.int ((j : Int) + 1), .ref q]) := upd_same
  have h2' : upd H p (.lst [.int ((j : Int) + 1), .ref q]) q = some (.lst (ns.map V.int)) := by rw [upd_ne hpq.symm]; exact h2
  obtain ⟨x, hx⟩ : ∃ x, ns[j]? = some x := ⟨_, List.getElem?_eq_getElem (by omega)⟩
  refine ⟨_, rfl, p, _, 1, _, rfl, rfl, SqL.of h1', rfl, _, rfl, q, _, _, .int x, rfl, rfl, SqL.of h2', at_of rfl (by rw [List.getElem?_map, hx]; rfl), x, rfl, _, rfl, _, _, rfl, rfl, hm, ?_⟩
  refine k _ (x % m) (Int.emod_nonneg _ (by omega)) (Int.emod_lt_of_pos _ hm) ⟨ns, j + 1, ?_, h2', h3⟩ fun b o e hb => by rw [upd_ne hb]; exact e
  exact upd_same.trans rfl
def sp_law_word (T : Txt K mg) : Sp := fun vs H Q _ => ∃ (p q : Addr) (n : Nat), vs = [.ref p, .int n] ∧ Dr H p q ∧ p ≠ q ∧ n ≤ 12 ∧ ∀ (H' : Hp) (v : Int), 0 ≤ v → v < 2 ^ n → Dr H' p q → (∀ b o, H b = some o → b ≠ p → H' b = some o) → Q (.int v) H'
theorem sp_law_word_len {T : Txt K mg} {vs H Q E} (h : sp_law_word T vs H Q E) : vs.length = 2 := by obtain ⟨_, _, _, rfl, _⟩ := h; rfl
theorem shl_mod {x : Int} {n : Nat} {C : Int → Prop} (h : ∀ v, 0 ≤ v → v < 2 ^ n → C v) : C (x % (1 * 2 ^ (n : Int).toNat)) := by
  rw [Int.one_mul, Int.toNat_natCast]
  exact h _ (Int.emod_nonneg _ (by have := pow_pos' n; omega)) (Int.emod_lt_of_pos _ (pow_pos' n))
theorem ok_law_word (T : Txt K mg) : FnOk P w K mg base CX0 2 T.f_law_word T.fd_law_word ["_law_draws_here", "_law_width"] (sp_law_word T) := by
  have G_law_take := ok_law_take (P := P) (w := w) (base := base) T
  refine T.F_law_word.ok sc_law_word (fun vs H Q E h => sp_law_word_len h) (fun cdv A outer s H vs Q E hr h => ?_)
  obtain ⟨p, q, n, rfl, hd, hpq, hn, k⟩ := h
  refine ⟨_, (pss_cons (ps_set (i := 2) sc_law_word.nd rfl (Or.inl rfl) (pe_call G_law_take hr rfl T.g_law_take T.F_law_take.kp T.b_law_take .nil pass0 (pa_cons (pv 0) (pa_cons pe_int pa_nil))))
       (pss_cons (ps_set (i := 3) sc_law_word.nd rfl (Or.inl rfl) (pe_call G_law_take hr rfl T.g_law_take T.F_law_take.kp T.b_law_take .nil pass0 (pa_cons (pv 0) (pa_cons pe_int pa_nil))))
       (pss_cons (ps_set (i := 4) sc_law_word.nd rfl (Or.inl rfl) (pe_call G_law_take hr rfl T.g_law_take T.F_law_take.kp T.b_law_take .nil pass0 (pa_cons (pv 0) (pa_cons pe_int pa_nil))))
       (pss_cons (ps_if (pt_cmpR op_eq (pv 4) pe_int (nomark _))
        (pss_one (ps_ret (pe_op op_mod (pe_callTy call_intI (by rfl) T.n_int (by decide +kernel) (pa_cons (pe_op op_sub (pe_op op_sub pe_int pe_int) (pe_op op_mod (pv 3) pe_int)) pa_nil)) (pe_op op_shl pe_int (pv 1)))))
        pss_nil)
       (pss_cons (ps_if (pt_cmpR op_eq (pv 4) pe_int (nomark _))
        (pss_one (ps_ret (pe_op op_mod (pe_callTy call_intI (by rfl) T.n_int (by decide +kernel) (pa_cons (pe_op op_mod (pv 3) pe_int) pa_nil)) (pe_op op_shl pe_int (pv 1)))))
        pss_nil)
       (pss_one (ps_ret (pe_op op_mod (pe_callTy call_intI (by rfl) T.n_int (by decide +kernel) (pa_cons (pe_op op_add (pe_op op_mul (pv 2) pe_int) (pv 3)) pa_nil)) (pe_op op_shl pe_int (pv 1)))))))))), ?_⟩
  refine ⟨_, rfl, p, q, _, rfl, hd, hpq, by decide, fun H1 x x0 x1 d1 k1 => ?_⟩
  refine ⟨_, rfl, p, q, _, rfl, d1, hpq, by decide, fun H2 y y0 y1 d2 k2 => ?_⟩
  refine ⟨_, rfl, p, q, _, rfl, d2, hpq, by decide, fun H3 z z0 z1 d3 k3 => ?_⟩
  have kk : ∀ v, 0 ≤ v → v < 2 ^ n → Q (.int v) H3 := fun v v0 v1 => k H3 v v0 v1 d3 fun b o e hb => k3 _ _ (k2 _ _ (k1 _ _ e hb) hb) hb
  refine ⟨_, rfl, rfl, _, rfl, ite2 (fun _ => ?_) fun _ => ?_⟩
  · refine ⟨_, _, rfl, rfl, _, rfl, _, _, rfl, rfl, by show (0 : Int) < 2; decide, _, _, rfl, rfl, _, rfl, _, rfl, _, _, rfl, rfl, cpow1 (by omega) (by omega), _, _, rfl, rfl, two_pos _, ?_⟩
    exact shl_mod (C := fun v => Q (.int v) H3) kk
  refine ⟨_, rfl, rfl, _, rfl, ite2 (fun _ => ?_) fun _ => ?_⟩
  · refine ⟨_, rfl, _, _, rfl, rfl, by show (0 : Int) < 3; decide, _, rfl, _, rfl, _, _, rfl, rfl, cpow1 (by omega) (by omega), _, _, rfl, rfl, two_pos _, ?_⟩
    exact shl_mod (C := fun v => Q (.int v) H3) kk
  · refine ⟨_, rfl, _, _, rfl, rfl, by right; decide, _, rfl, _, _, rfl, rfl, _, rfl, _, rfl, _, _, rfl, rfl, cpow1 (by omega) (by omega), _, _, rfl, rfl, two_pos _, ?_⟩
    exact shl_mod (C := fun v => Q (.int v) H3) kk
def opList : List V := [.str "add", .str "xor", .str "sub", .str "and", .str "same", .str "or", .str "less"]
def sp_law_ops (T : Txt K mg) : Sp := fun vs H Q _ => vs = [] ∧ ∀ p, H p = none → Q (.ref p) (upd H p (.lst opList))
theorem sp_law_ops_len {T : Txt K mg} {vs H Q E} (h : sp_law_ops T vs H Q E) : vs.length = 0 := by obtain ⟨rfl, _⟩ := h; rfl
theorem ok_law_ops (T : Txt K mg) : FnOk P w K mg base CX0 1 T.f_law_ops T.fd_law_ops [] (sp_law_ops T) := by
  skip
  refine T.F_law_ops.ok sc_law_ops (fun vs H Q E h => sp_law_ops_len h) (fun cdv A outer s H vs Q E hr h => ?_)
  obtain ⟨rfl, k⟩ := h
  refine ⟨_, (pss_one (ps_ret (pe_lst (pa_cons pe_str (pa_cons pe_str (pa_cons pe_str (pa_cons pe_str (pa_cons pe_str (pa_cons pe_str (pa_cons pe_str pa_nil)))))))))), ?_⟩
  exact ⟨by show 7 ≤ sizeLine; decide, k⟩
def sp_law_draws (T : Txt K mg) : Sp := fun vs H Q _ => ∃ (a : Addr) (xs : List Int), vs = [.ref a] ∧ SqL K H a (xs.map V.int) ∧ xs.length ≤ 63 ∧ ∀ (H' : Hp) (p q : Addr), Same H H' → H p = none → H q = none → p ≠ q → Dr H' p q → Q (.ref p) H'
theorem sp_law_draws_len {T : Txt K mg} {vs H Q E} (h : sp_law_draws T vs H Q E) : vs.length = 1 := by obtain ⟨_, _, rfl, _⟩ := h; rfl
/-- numbers so far -/
def NumsAt (H0 H : Hp) (N : Addr) (m : Nat) : Prop := Same H0 H ∧ ∃ ns : List Int, H N = some (.lst (ns.map V.int)) ∧ ns.length ≤ m ∧ ∀ x ∈ ns, 0 ≤ x
theorem NumsAt.more {H0 H : Hp} {N : Addr} {m m' : Nat} (h : NumsAt H0 H N m) (l : m ≤ m') : NumsAt H0 H N m' := by
  obtain ⟨s, ns, h1, h2, h3⟩ := h
  exact ⟨s, ns, h1, by omega, h3⟩
theorem NumsAt.push {H0 H : Hp} {N : Addr} {m : Nat} {x : Int} (h0 : H0 N = none) (h : NumsAt H0 H N m) (hx : 0 ≤ x) : ∃ xs : List V, H N = some (.lst xs) ∧ xs.length ≤ m ∧ NumsAt H0 (upd H N (.lst (xs ++ [.int x]))) N (m + 1) := by
  obtain ⟨s, ns, h1, h2, h3⟩ := h
  refine ⟨_, h1, by rw [List.length_map]; exact h2, fun b o e => ?_, ns ++ [x], by rw [upd_same, List.map_append]; rfl, by simp; omega, fun z hz => ?_⟩
  · rw [upd_ne (ne_of_none e h0)]; exact s _ _ e
  · rcases List.mem_append.mp hz with hz | hz
    · exact h3 z hz
    · simp at hz; subst hz; exact hx
theorem ok_law_draws (T : Txt K mg) : FnOk P w K mg base CX0 1 T.f_law_draws T.fd_law_draws ["_law_script"] (sp_law_draws T) := by
  skip
  refine T.F_law_draws.ok sc_law_draws (fun vs H Q E h => sp_law_draws_len h) (fun cdv A outer s H vs Q E hr h => ?_)
  obtain ⟨a, xs, rfl, hx, h63, k⟩ := h
  refine ⟨_, (pss_cons (ps_set (i := 1) sc_law_draws.nd rfl (Or.inl rfl) (pe_lst pa_nil))
       (pss_cons (ps_for PassesOwn.never rfl (pi_range1 (by rfl) T.n_range (pa_cons (pe_callB (call_min2 rfl) (by rfl) T.n_min (by decide +kernel) (pa_cons (pe_callB call_lenL (by rfl) T.n_len (by decide +kernel) (pa_cons (pv 0) pa_nil)) (pa_cons pe_int pa_nil))) pa_nil)) (pg_name (i := 2) sc_law_draws.nd rfl (Or.inl rfl))
        (pss_cons (ps_set (i := 3) sc_law_draws.nd rfl (Or.inl rfl) (pe_callTy call_intI (by rfl) T.n_int (by decide +kernel) (pa_cons (pe_ix ix_list (pv 0) (pv 2) (fun _ _ => rfl)) pa_nil)))
       (pss_cons (ps_set (i := 4) sc_law_draws.nd rfl (Or.inl rfl) pe_int)
       (Evl.pss_cut (ps_if (pt_cmpR op_lt (pv 3) pe_int (nomark _))
        (pss_cons (ps_set (i := 4) sc_law_draws.nd rfl (Or.inl rfl) pe_int)
       (pss_one (ps_set (i := 3) sc_law_draws.nd rfl (Or.inl rfl) (pe_un un_neg (pv 3)))))
        pss_nil)
       (pss_one (ps_if (pt_cmpR op_ge (pv 3) (pe_op op_pow pe_int pe_int) (nomark _))
        (pss_one (ps_for PassesOwn.never rfl (pi_range1 (by rfl) T.n_range (pa_cons pe_int pa_nil)) (pg_name (i := 5) sc_law_draws.nd rfl (Or.inl rfl))
        (pss_one (ps_if (pt_cmpR op_gt (pv 3) pe_int (nomark _))
        (pss_cons (ps_expr (pe_bm PySem.F.plainAttrs_list PySem.F.slot_list_append PySem.F.type_list_append mt_append (pv 1) (pa_cons (pe_op op_mod (pe_callTy call_intI (by rfl) T.n_int (by decide +kernel) (pa_cons (pv 3) pa_nil)) pe_int) pa_nil)))
       (pss_one (ps_set (i := 3) sc_law_draws.nd rfl (Or.inl rfl) (pe_op op_fdiv (pv 3) pe_int))))
        pss_nil))))
        (pss_cons (ps_set (i := 6) sc_law_draws.nd rfl (Or.inl rfl) (pe_op op_mod (pe_callTy call_intI (by rfl) T.n_int (by decide +kernel) (pa_cons (pe_op op_add (pe_op op_add (pe_op op_add (pe_op op_mul (pv 3) pe_int) (pe_op op_mul (pv 4) pe_int)) (pe_op op_mul (pv 2) pe_int)) pe_int) pa_nil)) pe_int))
       (pss_one (ps_for PassesOwn.never rfl (pi_range1 (by rfl) T.n_range (pa_cons pe_int pa_nil)) (pg_name (i := 5) sc_law_draws.nd rfl (Or.inl rfl))
        (pss_cons (ps_set (i := 6) sc_law_draws.nd rfl (Or.inl rfl) (pe_op op_mod (pe_callTy call_intI (by rfl) T.n_int (by decide +kernel) (pa_cons (pe_op op_add (pe_op op_add (pe_op op_mul (pv 6) pe_int) (pe_op op_fdiv (pv 6) pe_int)) (pv 5)) pa_nil)) pe_int))
       (pss_one (ps_expr (pe_bm PySem.F.plainAttrs_list PySem.F.slot_list_append PySem.F.type_list_append mt_append (pv 1) (pa_cons (pe_op op_fdiv (pv 6) pe_int) pa_nil))))))))))))))
       (pss_one (ps_ret (pe_lst (pa_cons pe_int (pa_cons (pv 1) pa_nil))))))), ?_⟩
  have sz : sizeLine = 16777216 := sizeLine_eq
  refine ⟨Nat.zero_le _, fun N hN => ?_⟩
  have sN := same_new (o := .lst []) hN
  have emin : (if (63 : Int) < ((xs.map V.int).length : Nat) then (63 : Int) else ((xs.map V.int).length : Nat)) = (xs.length : Nat) := by
    rw [List.length_map, if_neg (by omega)]
  refine ⟨_, rfl, a, _, rfl, sN.seq hx, _, _, rfl, ?_⟩
  rw [emin]
  refine ⟨_, rfl, by omega, by omega, ?_⟩
  refine for_range (lo := 0) (n := ((xs.length : Nat) : Int).toNat) (fun i σ' H1 => ∃ v2 v3 v4 v5 v6 : Option V, σ' = [some (.ref a), some (.ref N), v2, v3, v4, v5, v6] ∧ NumsAt H H1 N (45 * i)) ⟨none, none, none, none, none, rfl, sN, [], upd_same, Nat.le_refl _, by simp⟩ ?_ ?_
  · rintro i σ' H1 hi ⟨v2, v3, v4, v5, v6, rfl, hn⟩
    rw [Int.toNat_natCast] at hi
    obtain ⟨x, hxi⟩ : ∃ x, xs[i]? = some x := ⟨_, List.getElem?_eq_getElem hi⟩
    refine ⟨_, rfl, _, rfl, a, _, _, .int x, rfl, rfl, hn.1.seq hx, at_of (j := i) (by omega) (by rw [List.getElem?_map, hxi]; rfl), x, rfl, ?_⟩
    -- the sign
    refine ⟨fun σ' H2 => H2 = H1 ∧ ∃ c sg : Int, σ' = [some (.ref a), some (.ref N), some (.int (0 + i)), some (.int c), some (.int sg), v5, v6] ∧ 0 ≤ c ∧ 0 ≤ sg ∧ sg ≤ 1, ?_, ?_⟩
    · refine ⟨_, rfl, _, _, rfl, rfl, _, rfl, ite2d (fun hc => ?_) fun hc => ?_⟩
      · exact ⟨_, rfl, _, rfl, rfl, -x, 1, rfl, by omega, by omega, by omega⟩
      · exact ⟨rfl, x, 0, rfl, by omega, by omega, by omega⟩
    rintro σ' H2 ⟨rfl, c, sg, rfl, c0, g0, g1⟩
    refine ⟨_, rfl, _, _, rfl, rfl, cpow10, _, _, rfl, rfl, _, rfl, ite2d (fun hc => ?_) fun hc => ?_⟩
    · -- a great number: its digits
      refine ⟨45, rfl, by decide, by decide, ?_⟩
      refine for_range (lo := 0) (n := (45 : Int).toNat) (fun t σ' H3 => ∃ (c : Int) (v5 : Option V), σ' = [some (.ref a), some (.ref N), some (.int (0 + i)), some (.int c), some (.int sg), v5, v6] ∧ 0 ≤ c ∧ NumsAt H H3 N (45 * i + t)) ⟨c, v5, rfl, c0, hn⟩ ?_ ?_
      · rintro t σ' H3 ht ⟨c, v5, rfl, c0, hn⟩
        refine ⟨_, rfl, _, _, rfl, rfl, _, rfl, ite2d (fun hc => ?_) fun hc => ?_⟩
        · obtain ⟨ys, hy, hyl, hn2⟩ := hn.push (x := c % 30) hN (Int.emod_nonneg _ (by decide))
          have ht : t < 45 := ht
          refine ⟨_, rfl, .inl ⟨rfl, _, SqL.of hy⟩, _, rfl, _, rfl, _, _, rfl, rfl, by show (0 : Int) < 30; decide, N, _, _, rfl, rfl, hy, by omega, ?_⟩
          refine ⟨_, rfl, _, _, rfl, rfl, ⟨by decide, by decide⟩, ?_⟩
          exact ⟨_, _, rfl, Int.ediv_nonneg c0 (by decide), hn2⟩
        · exact ⟨c, _, rfl, c0, hn.more (by omega)⟩
      · rintro σ' H3 ⟨c, v5, rfl, c0, hn⟩
        exact ⟨_, _, _, _, _, rfl, hn.more (by show 45 * i + 45 ≤ 45 * (i + 1); omega)⟩
    · have hc : c < 1000000000000000000 := by
        have : ¬ (10 : Int) ^ (18 : Int).toNat ≤ c := hc
        have e : (10 : Int) ^ (18 : Int).toNat = 1000000000000000000 := by decide
        omega
      refine ⟨_, rfl, _, _, rfl, rfl, Or.inr (by constructor <;> decide), _, rfl, _, _, rfl, rfl, Or.inr (by constructor <;> decide), _, _, rfl, rfl, _, rfl, _, _, rfl, rfl, Or.inr (by constructor <;> decide), _, _, rfl, rfl, _, _, rfl, rfl, _, rfl, _, _, rfl, rfl, by show (0 : Int) < 2147483647; decide, ?_⟩
      have m0 : 0 ≤ (c * 16807 + sg * 911 + (0 + (i : Int)) * 7919 + 13) % 2147483647 ∧ (c * 16807 + sg * 911 + (0 + (i : Int)) * 7919 + 13) % 2147483647 < 2147483647 := ⟨Int.emod_nonneg _ (by decide), Int.emod_lt_of_pos _ (by decide)⟩
      refine ⟨6, rfl, by decide, by decide, ?_⟩
      refine for_range (lo := 0) (n := (6 : Int).toNat) (fun t σ' H3 => ∃ (mx : Int) (v5 : Option V), σ' = [some (.ref a), some (.ref N), some (.int (0 + i)), some (.int c), some (.int sg), v5, some (.int mx)] ∧ 0 ≤ mx ∧ mx < 2147483647 ∧ NumsAt H H3 N (45 * i + t)) ⟨_, v5, rfl, m0.1, m0.2, hn⟩ ?_ ?_
      · rintro t σ' H3 ht ⟨mx, v5, rfl, m0, m1, hn⟩
        have ht : t < 6 := ht
        refine ⟨_, rfl, _, _, rfl, rfl, Or.inr (by constructor <;> decide), _, rfl, _, _, rfl, rfl, ⟨by decide, by decide⟩, _, _, rfl, rfl, _, rfl, _, _, rfl, rfl, _, rfl, _, _, rfl, rfl, by show (0 : Int) < 2147483647; decide, ?_⟩
        have m2 : 0 ≤ (mx * 69621 + mx / 1000 + (0 + (t : Int))) % 2147483647 ∧ (mx * 69621 + mx / 1000 + (0 + (t : Int))) % 2147483647 < 2147483647 := ⟨Int.emod_nonneg _ (by decide), Int.emod_lt_of_pos _ (by decide)⟩
        obtain ⟨ys, hy, hyl, hn2⟩ := hn.push (x := (mx * 69621 + mx / 1000 + (0 + (t : Int))) % 2147483647 / 8) hN (Int.ediv_nonneg m2.1 (by decide))
        refine ⟨_, rfl, .inl ⟨rfl, _, SqL.of hy⟩, _, rfl, _, _, rfl, rfl, ⟨by decide, by decide⟩, N, _, _, rfl, rfl, hy, by omega, ?_⟩
        exact ⟨_, _, rfl, m2.1, m2.2, hn2⟩
      · rintro σ' H3 ⟨mx, v5, rfl, m0, m1, hn⟩
        exact ⟨_, _, _, _, _, rfl, hn.more (by show 45 * i + 6 ≤ 45 * (i + 1); omega)⟩
  · rintro σ' H1 ⟨v2, v3, v4, v5, v6, rfl, hn⟩
    obtain ⟨s1, ns, h1, _, h3⟩ := hn
    refine ⟨_, rfl, by show 2 ≤ sizeLine; decide, fun p hp => ?_⟩
    have pN : N ≠ p := ne_of_none h1 hp
    exact k _ p N (s1.trans (same_new hp)) (s1.free hp) hN pN.symm ⟨ns, 0, upd_same, by rw [upd_ne pN]; exact h1, h3⟩
end
end My

/-! LB -/
namespace My
open PySem L2
local macro_rules | `(tactic| walk_at "side") => `(tactic| first | with_reducible rfl | assumption | rfl | decide | omega | exact cpow1 (by omega) (by omega) | exact cdiv (by omega) (by omega) | exact two_pos _ | exact SqL.of (by assumption) | exact SqT.of (by assumption) | exact TyX.base (TyOf.int _) | exact TyX.base (TyOf.bl _) | exact TyX.base TyOf.non | exact scal_opt _ _ | exact k_ii | exact k_bi | exact k_ni | exact k_ib | exact k_bb | exact TyX.base (TyOf.lst (by assumption)) | exact k_ll | exact k_lt)
local macro_rules | `(tactic| walk_at "p") => `(tactic| repeat (first | refine And.intro (by walk_at "side") ?_ | apply Exists.intro | refine iteN (by assumption) ?_ | refine iteP (by assumption) ?_ | refine iteN (by decide) ?_ | refine iteP (by decide) ?_))

section
variable {P : Program} {w : World} {K : PySem.W.Frag} {mg : Str → Option Value} {base : Heap}
/-- what a call that keeps parts in the list at l leaves -/
def LMade (H : Hp) (l : Addr) (r : Nat × List Part) (Q : VK) : Prop := ∀ H' : Hp, LAt H' l r.2 → (∀ b o, H b = some o → b ≠ l → H' b = some o) → Q (.int (r.1 : Nat)) H'
theorem LMade.news {H H' : Hp} {l : Addr} {r : Nat × List Part} {Q : VK} (h : LMade H l r Q) (s : Same H H') : LMade H' l r Q := fun H2 hp k => h H2 hp fun b o e h1 => k b o (s b o e) h1
theorem LAt.news {H H' : Hp} {l : Addr} {ps : List Part} (h : LAt H l ps) (s : Same H H') : LAt H' l ps := h.keep (S := fun _ => False) (fun b o e _ => s b o e) id fun _ _ _ => id
def sp_law_keep (T : Txt K mg) : Sp := fun vs H Q _ => ∃ (l t : Addr) (ps : List Part) (p : Part), vs = [.ref l, .ref t] ∧ LAt H l ps ∧ H t = some (.tup p.vals) ∧ ps.length < 1000 ∧ LMade H l (mk ps p) Q
theorem sp_law_keep_len {T : Txt K mg} {vs H Q E} (h : sp_law_keep T vs H Q E) : vs.length = 2 := by obtain ⟨_, _, _, _, rfl, _⟩ := h; rfl
theorem ok_law_keep (T : Txt K mg) : FnOk P w K mg base CX0 1 T.f_law_keep T.fd_law_keep ["_law_parts", "_law_part_here"] (sp_law_keep T) := by
  skip
  refine T.F_law_keep.ok sc_law_keep (fun vs H Q E h => sp_law_keep_len h) (fun cdv A outer s H vs Q E hr h => ?_)
  obtain ⟨l, t, ps, p, rfl, hl, ht, hn, k⟩ := h
  obtain ⟨xs, hL, ex, hit⟩ := hl.item
  have tl : t ≠ l := ne_of ht hL (by intro z; cases z)
  have sz : sizeLine = 16777216 := sizeLine_eq
  refine ⟨_, (pss_cons (ps_for PassesOwn.never rfl (pi_range1 (by rfl) T.n_range (pa_cons (pe_callB call_lenL (by rfl) T.n_len (by decide +kernel) (pa_cons (pv 0) pa_nil)) pa_nil)) (pg_name (i := 2) sc_law_keep.nd rfl (Or.inl rfl))
        (pss_one (ps_if (pt_cmpR (op_eqD hr.units) (pe_ix ix_list (pv 0) (pv 2) (fun _ _ => rfl)) (pv 1) (nomark _))
        (pss_one (ps_ret (pv 2)))
        pss_nil)))
       (pss_cons (ps_expr (pe_bm PySem.F.plainAttrs_list PySem.F.slot_list_append PySem.F.type_list_append mt_append (pv 0) (pa_cons (pv 1) pa_nil)))
       (pss_one (ps_ret (pe_op op_sub (pe_callB call_lenL (by rfl) T.n_len (by decide +kernel) (pa_cons (pv 0) pa_nil)) pe_int))))), ?_⟩
  refine ⟨_, rfl, l, xs, rfl, SqL.of hL, _, rfl, by omega, by omega, ?_⟩
  refine for_range (lo := 0) (n := ((xs.length : Nat) : Int).toNat) (fun i σ' H' => H' = H ∧ (∀ j < i, ps[j]? ≠ some p) ∧ ∃ v2 : Option V, σ' = [some (.ref l), some (.ref t), v2]) ⟨rfl, fun j hj => absurd hj (Nat.not_lt_zero _), none, rfl⟩ ?_ ?_
  · rintro i σ' H' hi ⟨rfl, hno, v2, rfl⟩
    rw [Int.toNat_natCast, ex] at hi
    obtain ⟨q, hq⟩ : ∃ q, ps[i]? = some q := ⟨_, List.getElem?_eq_getElem hi⟩
    obtain ⟨u, hu, hU⟩ := hit i q hq
    refine ⟨_, rfl, _, rfl, l, xs, _, _, rfl, rfl, SqL.of hL, at_of (j := i) (by omega) hu, _, rfl, eqT hU ht ⟨_, rfl, ite2d (fun e => ?_) fun e => ?_⟩⟩
    · subst e
      have hm : q ∈ ps := List.mem_of_getElem? hq
      have hidx : ps.idxOf q = i := by
        have h1 : ps.idxOf q < ps.length := List.idxOf_lt_length_iff.mpr hm
        have h2 : ps[ps.idxOf q]? = some q := by rw [List.getElem?_eq_getElem h1, List.getElem_idxOf]
        have h3 : ps.idxOf q ≤ i := by
          exact idxOf_le hq
        by_cases h4 : ps.idxOf q < i
        · exact absurd h2 (hno _ h4)
        · omega
      have hk : mk ps q = (i, ps) := by unfold mk; rw [if_pos hm, hidx]
      rw [hk] at k
      refine ⟨_, rfl, ?_⟩
      have := k H' hl fun b o e _ => e
      rw [show (0 : Int) + (i : Nat) = (i : Nat) by omega]
      exact this
    · exact ⟨rfl, fun j hj => by
        by_cases hji : j = i
        · subst hji; rw [hq]; exact fun z => e (Option.some.inj z)
        · exact hno j (by omega), _, rfl⟩
  · rintro σ' H' ⟨rfl, hno, v2, rfl⟩
    rw [Int.toNat_natCast, ex] at hno
    have hm : p ∉ ps := fun hm => by
      obtain ⟨j, hj, e⟩ := List.getElem_of_mem hm
      exact hno j hj (by rw [List.getElem?_eq_getElem hj, e])
    have hk : mk ps p = (ps.length, ps ++ [p]) := if_neg hm
    rw [hk] at k
    refine ⟨_, rfl, Or.inl ⟨rfl, _, SqL.of hL⟩, _, rfl, l, xs, _, rfl, rfl, hL, by omega, ?_⟩
    refine ⟨_, rfl, l, _, rfl, SqL.of upd_same, _, _, rfl, rfl, ?_⟩
    have := k (upd H' l (.lst (xs ++ [.ref t]))) (hl.push hL (fun b ys e => by rw [upd_ne (ne_of e hL (by intro z; cases z))]; exact e) upd_same (by rw [upd_ne tl]; exact ht)) fun b o e hb => by rw [upd_ne hb]; exact e
    have e2 : (((xs ++ [V.ref t]).length : Nat) : Int) - 1 = (ps.length : Nat) := by rw [List.length_append, List.length_singleton]; omega
    show Q (V.int ((((xs ++ [V.ref t]).length : Nat) : Int) - 1)) _
    rw [e2]
    exact this
/-- what short promises: -1 where nothing is shortened -/
def sp_law_short (T : Txt K mg) : Sp := fun vs H Q _ => ∃ (l : Addr) (ps : List Part) (n : Nat) (o : Op) (a b : Nat), vs = [.ref l, .int n, .str o.s, .int a, .int b] ∧ LAt H l ps ∧ ps.length < 1000 ∧ n ≤ 12 ∧ a < ps.length ∧ b < ps.length ∧
  (shortR o (wordOf ps a) (wordOf ps b) (decide (a = b)) (2 ^ n - 1) = .no → ∀ H', Same H H' → Q (.int (-1)) H') ∧
  (shortR o (wordOf ps a) (wordOf ps b) (decide (a = b)) (2 ^ n - 1) ≠ .no → LMade H l (fin ps o a b (shortR o (wordOf ps a) (wordOf ps b) (decide (a = b)) (2 ^ n - 1))) Q)
theorem sp_law_short_len {T : Txt K mg} {vs H Q E} (h : sp_law_short T vs H Q E) : vs.length = 5 := by obtain ⟨_, _, _, _, _, _, rfl, _⟩ := h; rfl
/-- a name among written ones -/
theorem in_mark {x : V} {xs : List V} (h : inV x xs = true) : (if false = true then !inV x xs else inV x xs) = true := by rw [if_neg Bool.false_ne_true]; exact h
theorem nin_mark {x : V} {xs : List V} (h : inV x xs = false) : ¬ (if false = true then !inV x xs else inV x xs) = true := by rw [if_neg Bool.false_ne_true, h]; decide
def tailR (o : Op) (fa fb : Option Int) (eq : Bool) (most : Int) : Sh :=
  if o = .and then (if fa = some most then .other else if fb = some most ∨ eq = true then .one else .no) else if eq = true then shTwice o else .no
theorem ok_law_short (T : Txt K mg) : FnOk P w K mg base CX0 2 T.f_law_short T.fd_law_short ["_law_parts", "_law_width", "_law_name", "_law_one", "_law_other"] (sp_law_short T) := by
  have G_law_keep := ok_law_keep (P := P) (w := w) (base := base) T
  refine T.F_law_short.ok sc_law_short (fun vs H Q E h => sp_law_short_len h) (fun cdv A outer s H vs Q E hr h => ?_)
  obtain ⟨l, ps, n, o, a, b, rfl, hl, hn, hw, ha, hb, k1, k2⟩ := h
  obtain ⟨xs, hL, ex, hit⟩ := hl.item
  obtain ⟨pa, hpa⟩ : ∃ p, ps[a]? = some p := ⟨_, List.getElem?_eq_getElem ha⟩
  obtain ⟨pb, hpb⟩ : ∃ p, ps[b]? = some p := ⟨_, List.getElem?_eq_getElem hb⟩
  obtain ⟨ta, hta, hTa⟩ := hit a pa hpa
  obtain ⟨tb, htb, hTb⟩ := hit b pb hpb
  rw [wordOf_at hpa, wordOf_at hpb] at k1 k2
  generalize hs : shortR o pa.word pb.word (decide (a = b)) (2 ^ n - 1) = s at k1 k2
  refine ⟨_, (pss_cons (ps_set (i := 5) sc_law_short.nd rfl (Or.inl rfl) (pe_tup (pa_cons pe_str (pa_cons pe_int pa_nil))))
       (Evl.pss_cut (ps_if (PW.pt (pw_or (pt_cmpR (op_eqD hr.units) (pe_ix ix_list (pv 0) (pv 3) (fun _ _ => rfl)) (pv 5) (nomark _)) (pw_or1 (pt_cmpR (op_eqD hr.units) (pe_ix ix_list (pv 0) (pv 4) (fun _ _ => rfl)) (pv 5) (nomark _)))))
        (pss_cons (ps_if (pt_cmpR op_in_seq (pv 2) (pe_tup (pa_cons pe_str (pa_cons pe_str (pa_cons pe_str pa_nil)))) (by rfl))
        (pss_cons (ps_if (pt_cmpR (op_eqD hr.units) (pe_ix ix_list (pv 0) (pv 3) (fun _ _ => rfl)) (pv 5) (nomark _))
        (pss_one (ps_ret (pv 4)))
        pss_nil)
       (pss_one (ps_ret (pv 3))))
        pss_nil)
       (pss_cons (ps_if (pt_cmpR op_eq (pv 2) pe_str (nomark _))
        (pss_one (ps_ret (pe_call G_law_keep hr rfl T.g_law_keep T.F_law_keep.kp T.b_law_keep .nil pass0 (pa_cons (pv 0) (pa_cons (pv 5) pa_nil)))))
        pss_nil)
       (pss_cons (ps_if (PW.pt (pw_and (pt_cmpR (op_eqD hr.units) (pe_ix ix_list (pv 0) (pv 4) (fun _ _ => rfl)) (pv 5) (nomark _)) (pw_and1 (pt_cmpR op_eq (pv 2) pe_str (nomark _)))))
        (pss_one (ps_ret (pv 3)))
        pss_nil)
       (pss_one (ps_if (PW.pt (pw_and (pt_cmpR (op_eqD hr.units) (pe_ix ix_list (pv 0) (pv 4) (fun _ _ => rfl)) (pv 5) (nomark _)) (pw_and1 (pt_cmpR op_eq (pv 2) pe_str (nomark _)))))
        (pss_one (ps_ret (pe_call G_law_keep hr rfl T.g_law_keep T.F_law_keep.kp T.b_law_keep .nil pass0 (pa_cons (pv 0) (pa_cons (pv 5) pa_nil)))))
        pss_nil)))))
        pss_nil)
       (Evl.pss_cut (ps_if (PW.pt (pw_and (pt_cmpR op_eq (pv 2) pe_str (nomark _)) (pw_and1 (pt_cmpR (op_eqD hr.units) (pe_ix ix_list (pv 0) (pv 3) (fun _ _ => rfl)) (pe_tup (pa_cons pe_str (pa_cons (pe_op op_sub (pe_op op_shl pe_int (pv 1)) pe_int) pa_nil))) (nomark _)))))
        (pss_one (ps_ret (pv 4)))
        pss_nil)
       (Evl.pss_cut (ps_if (PW.pt (pw_and (pt_cmpR op_eq (pv 2) pe_str (nomark _)) (pw_and1 (pt_cmpR (op_eqD hr.units) (pe_ix ix_list (pv 0) (pv 4) (fun _ _ => rfl)) (pe_tup (pa_cons pe_str (pa_cons (pe_op op_sub (pe_op op_shl pe_int (pv 1)) pe_int) pa_nil))) (nomark _)))))
        (pss_one (ps_ret (pv 3)))
        pss_nil)
       (pss_cons (ps_if (PW.pt (pw_and (pt_cmpR op_eq (pv 3) (pv 4) (nomark _)) (pw_and1 (pt_cmpR op_in_seq (pv 2) (pe_tup (pa_cons pe_str (pa_cons pe_str (pa_cons pe_str pa_nil)))) (by rfl)))))
        (pss_one (ps_ret (pe_call G_law_keep hr rfl T.g_law_keep T.F_law_keep.kp T.b_law_keep .nil pass0 (pa_cons (pv 0) (pa_cons (pv 5) pa_nil)))))
        pss_nil)
       (pss_cons (ps_if (PW.pt (pw_and (pt_cmpR op_eq (pv 3) (pv 4) (nomark _)) (pw_and1 (pt_cmpR op_in_seq (pv 2) (pe_tup (pa_cons pe_str (pa_cons pe_str pa_nil))) (by rfl)))))
        (pss_one (ps_ret (pv 3)))
        pss_nil)
       (pss_cons (ps_if (PW.pt (pw_and (pt_cmpR op_eq (pv 3) (pv 4) (nomark _)) (pw_and1 (pt_cmpR op_eq (pv 2) pe_str (nomark _)))))
        (pss_one (ps_ret (pe_call G_law_keep hr rfl T.g_law_keep T.F_law_keep.kp T.b_law_keep .nil pass0 (pa_cons (pv 0) (pa_cons (pe_tup (pa_cons pe_str (pa_cons pe_int pa_nil))) pa_nil)))))
        pss_nil)
       (pss_one (ps_ret (pe_un un_neg pe_int)))))))))), ?_⟩
  -- _law_zero = ('num', 0)
  refine ⟨by show 2 ≤ sizeLine; decide, fun z hz => ?_⟩
  have s1 := same_new (o := .tup [.str "num", .int 0]) hz
  have hz1 : upd H z (.tup [.str "num", .int 0]) z = some (.tup (Part.num 0).vals) := upd_same
  generalize hH1 : upd H z (.tup [.str "num", .int 0]) = H1 at *
  clear hH1
  have hL1 := s1 _ _ hL
  have hl1 := hl.news s1
  have ret1 : ∀ r : Sh, shortR o pa.word pb.word (decide (a = b)) (2 ^ n - 1) = r → r ≠ .no → LMade H1 l (fin ps o a b r) Q := fun r e ne => by
    rw [hs] at e; subst e; exact (k2 ne).news s1
  have eA := word_iff pa 0
  have eB := word_iff pb 0
  have hTa1 := s1 _ _ hTa
  have hTb1 := s1 _ _ hTb
  refine ⟨fun σ' H2 => Same H1 H2 ∧ σ' = [some (.ref l), some (.int (n : Nat)), some (.str o.s), some (.int (a : Nat)), some (.int (b : Nat)), some (.ref z)] ∧ shortR o pa.word pb.word (decide (a = b)) (2 ^ n - 1) = tailR o pa.word pb.word (decide (a = b)) (2 ^ n - 1) ∧
    (o = .and → ¬ pa = .num 0 ∧ ¬ pb = .num 0), ?_, ?_⟩
  · by_cases h : pa = .num 0 ∨ pb = .num 0
    · refine ⟨_, rfl, _, rfl, l, xs, _, _, rfl, rfl, SqL.of hL1, at_of rfl hta, _, rfl, eqT hTa1 hz1 ⟨_, rfl, ite2d (fun hA => iteP rfl ?_) fun hA => ?_⟩⟩
      rotate_left
      refine ⟨_, rfl, _, rfl, l, xs, _, _, rfl, rfl, SqL.of hL1, at_of rfl htb, _, rfl, eqT hTb1 hz1 ⟨_, rfl, iteP (dT (h.resolve_left hA)) ?_⟩⟩
      all_goals
        refine ⟨_, rfl, by show 3 ≤ sizeLine; decide, fun t ht => ?_⟩
        refine ⟨t, _, rfl, Or.inr (SqT.of upd_same), rfl, rfl, _, rfl, ?_⟩
        have s2 := same_new (o := .tup [.str "add", .str "or", .str "xor"]) ht
        generalize upd H1 t (.tup [.str "add", .str "or", .str "xor"]) = H2 at *
        have hL2 := s2 _ _ hL1
        have hl2 := hl1.news s2
        have hz2 := s2 _ _ hz1
        have hTa2 := s2 _ _ hTa1
        have hTb2 := s2 _ _ hTb1
        have ret2 : ∀ r : Sh, shortR o pa.word pb.word (decide (a = b)) (2 ^ n - 1) = r → r ≠ .no → LMade H2 l (fin ps o a b r) Q := fun r e ne => (ret1 r e ne).news s2
        have keep2 : LMade H2 l (mk ps (.num 0)) Q → sp_law_keep T [.ref l, .ref z] H2 Q E0 := fun m => ⟨l, z, ps, .num 0, rfl, hl2, hz2, hn, m⟩
        have done2 : shortR o pa.word pb.word (decide (a = b)) (2 ^ n - 1) = tailR o pa.word pb.word (decide (a = b)) (2 ^ n - 1) → (o = .and → False) → Same H1 H2 ∧ [some (V.ref l), some (.int (n : Nat)), some (.str o.s), some (.int (a : Nat)), some (.int (b : Nat)), some (.ref z)] = [some (.ref l), some (.int (n : Nat)), some (.str o.s), some (.int (a : Nat)), some (.int (b : Nat)), some (.ref z)] ∧ shortR o pa.word pb.word (decide (a = b)) (2 ^ n - 1) = tailR o pa.word pb.word (decide (a = b)) (2 ^ n - 1) ∧ (o = .and → ¬ pa = .num 0 ∧ ¬ pb = .num 0) :=
          fun e ne => ⟨s2, rfl, e, fun z => (ne z).elim⟩
        cases o
        case add =>
          refine iteP (in_mark (by decide +kernel)) ⟨_, rfl, _, rfl, l, xs, _, _, rfl, rfl, SqL.of hL2, at_of rfl hta, _, rfl, eqT hTa2 hz2 ⟨_, rfl, ite2d (fun e => ?_) fun e => ?_⟩⟩
          · exact ⟨_, rfl, ret2 .other (by simp [shortR, eA.mpr e]) (by decide) H2 hl2 fun b o e _ => e⟩
          · exact ⟨_, rfl, ret2 .one (by simp [shortR, eA, e, eB.mpr (h.resolve_left e)]) (by decide) H2 hl2 fun b o e _ => e⟩
        case or =>
          refine iteP (in_mark (by decide +kernel)) ⟨_, rfl, _, rfl, l, xs, _, _, rfl, rfl, SqL.of hL2, at_of rfl hta, _, rfl, eqT hTa2 hz2 ⟨_, rfl, ite2d (fun e => ?_) fun e => ?_⟩⟩
          · exact ⟨_, rfl, ret2 .other (by simp [shortR, eA.mpr e]) (by decide) H2 hl2 fun b o e _ => e⟩
          · exact ⟨_, rfl, ret2 .one (by simp [shortR, eA, e, eB.mpr (h.resolve_left e)]) (by decide) H2 hl2 fun b o e _ => e⟩
        case xor =>
          refine iteP (in_mark (by decide +kernel)) ⟨_, rfl, _, rfl, l, xs, _, _, rfl, rfl, SqL.of hL2, at_of rfl hta, _, rfl, eqT hTa2 hz2 ⟨_, rfl, ite2d (fun e => ?_) fun e => ?_⟩⟩
          · exact ⟨_, rfl, ret2 .other (by simp [shortR, eA.mpr e]) (by decide) H2 hl2 fun b o e _ => e⟩
          · exact ⟨_, rfl, ret2 .one (by simp [shortR, eA, e, eB.mpr (h.resolve_left e)]) (by decide) H2 hl2 fun b o e _ => e⟩
        case and =>
          refine iteN (nin_mark (by decide +kernel)) ⟨_, rfl, rfl, _, rfl, iteP (by decide +kernel) ⟨_, rfl, _, rfl, keep2 (ret2 .zero ?_ (by decide))⟩⟩
          rcases h with h | h
          · simp [shortR, shAnd, eA.mpr h]
          · simp [shortR, shAnd, eB.mpr h]
        case sub =>
          refine iteN (nin_mark (by decide +kernel)) ⟨_, rfl, rfl, _, rfl, iteN (by decide +kernel) ⟨_, rfl, _, rfl, l, xs, _, _, rfl, rfl, SqL.of hL2, at_of rfl htb, _, rfl, eqT hTb2 hz2 ⟨_, rfl, ite2d (fun e => ?_) fun e => ?_⟩⟩⟩
          · exact ⟨_, rfl, rfl, _, rfl, iteP (by decide +kernel) ⟨_, rfl, ret2 .one (by simp [shortR, eB.mpr e]) (by decide) H2 hl2 fun b o e _ => e⟩⟩
          · refine iteN (by decide) ⟨_, rfl, _, rfl, l, xs, _, _, rfl, rfl, SqL.of hL2, at_of rfl htb, _, rfl, eqT hTb2 hz2 ⟨_, rfl, iteN (dF e) (iteN (by decide) ?_)⟩⟩
            exact done2 (by simp [shortR, tailR, eB, e]) (by decide)
        case less =>
          refine iteN (nin_mark (by decide +kernel)) ⟨_, rfl, rfl, _, rfl, iteN (by decide +kernel) ⟨_, rfl, _, rfl, l, xs, _, _, rfl, rfl, SqL.of hL2, at_of rfl htb, _, rfl, eqT hTb2 hz2 ⟨_, rfl, ite2d (fun e => ?_) fun e => ?_⟩⟩⟩
          · refine ⟨_, rfl, rfl, _, rfl, iteN (by decide +kernel) ⟨_, rfl, _, rfl, l, xs, _, _, rfl, rfl, SqL.of hL2, at_of rfl htb, _, rfl, eqT hTb2 hz2 ⟨_, rfl, iteP (dT e) ⟨_, rfl, rfl, _, rfl, iteP (by decide +kernel) ?_⟩⟩⟩⟩
            exact ⟨_, rfl, _, rfl, keep2 (ret2 .zero (by simp [shortR, eB.mpr e]) (by decide))⟩
          · refine iteN (by decide) ⟨_, rfl, _, rfl, l, xs, _, _, rfl, rfl, SqL.of hL2, at_of rfl htb, _, rfl, eqT hTb2 hz2 ⟨_, rfl, iteN (dF e) (iteN (by decide) ?_)⟩⟩
            exact done2 (by simp [shortR, tailR, eB, e]) (by decide)
        case same =>
          refine iteN (nin_mark (by decide +kernel)) ⟨_, rfl, rfl, _, rfl, iteN (by decide +kernel) ⟨_, rfl, _, rfl, l, xs, _, _, rfl, rfl, SqL.of hL2, at_of rfl htb, _, rfl, eqT hTb2 hz2 ⟨_, rfl, ite2d (fun e => ?_) fun e => ?_⟩⟩⟩
          · refine ⟨_, rfl, rfl, _, rfl, iteN (by decide +kernel) ⟨_, rfl, _, rfl, l, xs, _, _, rfl, rfl, SqL.of hL2, at_of rfl htb, _, rfl, eqT hTb2 hz2 ⟨_, rfl, iteP (dT e) ⟨_, rfl, rfl, _, rfl, iteN (by decide +kernel) ?_⟩⟩⟩⟩
            exact done2 (by simp [shortR, tailR]) (by decide)
          · refine iteN (by decide) ⟨_, rfl, _, rfl, l, xs, _, _, rfl, rfl, SqL.of hL2, at_of rfl htb, _, rfl, eqT hTb2 hz2 ⟨_, rfl, iteN (dF e) (iteN (by decide) ?_)⟩⟩
            exact done2 (by simp [shortR, tailR]) (by decide)
    · have hA : ¬ pa = .num 0 := fun z => h (.inl z)
      have hB : ¬ pb = .num 0 := fun z => h (.inr z)
      refine ⟨_, rfl, _, rfl, l, xs, _, _, rfl, rfl, SqL.of hL1, at_of rfl hta, _, rfl, eqT hTa1 hz1 ⟨_, rfl, iteN (dF hA) ?_⟩⟩
      refine ⟨_, rfl, _, rfl, l, xs, _, _, rfl, rfl, SqL.of hL1, at_of rfl htb, _, rfl, eqT hTb1 hz1 ⟨_, rfl, iteN (dF hB) ?_⟩⟩
      refine ⟨Same.refl _, rfl, ?_, fun _ => ⟨hA, hB⟩⟩
      cases o <;> simp [shortR, tailR, shAnd, eA, eB, hA, hB]
  · rintro σ' H2 ⟨s2, rfl, e, hz0⟩
    have hL2 := s2 _ _ hL1
    have hl2 := hl1.news s2
    have hz2 := s2 _ _ hz1
    have hTa2 := s2 _ _ hTa1
    have hTb2 := s2 _ _ hTb1
    have ret2 : ∀ (r : Sh) (H3 : Hp), Same H2 H3 → tailR o pa.word pb.word (decide (a = b)) (2 ^ n - 1) = r → r ≠ .no → LMade H3 l (fin ps o a b r) Q := fun r H3 s3 q ne => (ret1 r (e.trans q) ne).news (s2.trans s3)
    have keep2 : ∀ (p : Part) (t : Addr) (H3 : Hp), Same H2 H3 → H3 t = some (.tup p.vals) → LMade H3 l (mk ps p) Q → sp_law_keep T [.ref l, .ref t] H3 Q E0 := fun p t H3 s3 ht m => ⟨l, t, ps, p, rfl, hl2.news s3, ht, hn, m⟩
    have no2 : ∀ H3 : Hp, Same H2 H3 → tailR o pa.word pb.word (decide (a = b)) (2 ^ n - 1) = .no → Q (.int (-1)) H3 := fun H3 s3 q => k1 (hs ▸ (e.trans q)) H3 (s1.trans (s2.trans s3))
    have pw : (1 : Int) * 2 ^ (n : Int).toNat - 1 = 2 ^ n - 1 := by rw [Int.one_mul, Int.toNat_natCast]
    have noand : o ≠ .and → ¬ decide (V.str o.s = V.str "and") = true := fun ho => dF fun z => ho (op_inj (o' := .and) (by injection z))
    refine ⟨fun σ' H3 => Same H2 H3 ∧ σ' = [some (.ref l), some (.int (n : Nat)), some (.str o.s), some (.int (a : Nat)), some (.int (b : Nat)), some (.ref z)] ∧ (o = .and → ¬ pa = .num (2 ^ n - 1)), ?_, ?_⟩
    · by_cases ho : o = .and
      · subst ho
        refine ⟨_, rfl, rfl, _, rfl, iteP (by decide +kernel) ?_⟩
        refine ⟨_, rfl, _, rfl, l, xs, _, _, rfl, rfl, SqL.of hL2, at_of rfl hta, _, rfl, _, _, rfl, rfl, cpow1 (by omega) (by omega), _, _, rfl, rfl, by show 2 ≤ sizeLine; decide, fun t ht => ?_⟩
        have s3 := same_new (o := .tup [.str "num", .int (1 * 2 ^ (n : Int).toNat - 1)]) ht
        have ht3 : upd H2 t (.tup [.str "num", .int (1 * 2 ^ (n : Int).toNat - 1)]) t = some (.tup (Part.num (2 ^ n - 1)).vals) := by rw [pw]; exact upd_same
        generalize upd H2 t (.tup [.str "num", .int (1 * 2 ^ (n : Int).toNat - 1)]) = H3 at *
        refine eqT (s3 _ _ hTa2) ht3 ⟨_, rfl, ite2d (fun e1 => ?_) fun e1 => ?_⟩
        · exact ⟨_, rfl, ret2 .other H3 s3 (by simp [tailR, (word_iff pa (2 ^ n - 1)).mpr e1]) (by decide) H3 (hl2.news s3) fun b o e _ => e⟩
        · exact ⟨s3, rfl, fun _ => e1⟩
      · exact ⟨_, rfl, rfl, _, rfl, iteN (noand ho) (iteN (by decide) ⟨Same.refl _, rfl, fun z => absurd z ho⟩)⟩
    rintro σ' H3 ⟨s3, rfl, m3⟩
    have hL3 := s3 _ _ hL2
    have hTb3 := s3 _ _ hTb2
    refine ⟨fun σ' H4 => Same H2 H4 ∧ σ' = [some (.ref l), some (.int (n : Nat)), some (.str o.s), some (.int (a : Nat)), some (.int (b : Nat)), some (.ref z)] ∧ (o = .and → ¬ pa = .num (2 ^ n - 1) ∧ ¬ pb = .num (2 ^ n - 1)), ?_, ?_⟩
    · by_cases ho : o = .and
      · subst ho
        refine ⟨_, rfl, rfl, _, rfl, iteP (by decide +kernel) ?_⟩
        refine ⟨_, rfl, _, rfl, l, xs, _, _, rfl, rfl, SqL.of hL3, at_of rfl htb, _, rfl, _, _, rfl, rfl, cpow1 (by omega) (by omega), _, _, rfl, rfl, by show 2 ≤ sizeLine; decide, fun t ht => ?_⟩
        have s4 := same_new (o := .tup [.str "num", .int (1 * 2 ^ (n : Int).toNat - 1)]) ht
        have ht4 : upd H3 t (.tup [.str "num", .int (1 * 2 ^ (n : Int).toNat - 1)]) t = some (.tup (Part.num (2 ^ n - 1)).vals) := by rw [pw]; exact upd_same
        generalize upd H3 t (.tup [.str "num", .int (1 * 2 ^ (n : Int).toNat - 1)]) = H4 at *
        refine eqT (s4 _ _ hTb3) ht4 ⟨_, rfl, ite2d (fun e1 => ?_) fun e1 => ?_⟩
        · have e0 : ¬ pa.word = some (2 ^ n - 1) := fun z => m3 rfl ((word_iff pa _).mp z)
          exact ⟨_, rfl, ret2 .one H4 (s3.trans s4) (by simp [tailR, e0, (word_iff pb (2 ^ n - 1)).mpr e1]) (by decide) H4 (hl2.news (s3.trans s4)) fun b o e _ => e⟩
        · exact ⟨s3.trans s4, rfl, fun _ => ⟨m3 rfl, e1⟩⟩
      · exact ⟨_, rfl, rfl, _, rfl, iteN (noand ho) (iteN (by decide) ⟨s3, rfl, fun z => absurd z ho⟩)⟩
    rintro σ' H4 ⟨s4, rfl, m4⟩
    have et : tailR o pa.word pb.word (decide (a = b)) (2 ^ n - 1) = if o = .and then (if a = b then .one else .no) else if a = b then shTwice o else .no := by
      by_cases ho : o = .and
      · have e1 : ¬ pa.word = some (2 ^ n - 1) := fun z => (m4 ho).1 ((word_iff pa _).mp z)
        have e2 : ¬ pb.word = some (2 ^ n - 1) := fun z => (m4 ho).2 ((word_iff pb _).mp z)
        by_cases hab : a = b <;> simp [tailR, ho, e1, e2, hab]
      · by_cases hab : a = b <;> simp [tailR, ho, hab]
    rw [et] at ret2 no2
    by_cases hab : a = b
    · rw [if_pos hab, if_pos hab] at ret2 no2
      have dab : decide (V.int ((a : Nat) : Int) = V.int ((b : Nat) : Int)) = true := dT (by rw [hab])
      refine ⟨_, rfl, _, rfl, rfl, _, rfl, iteP dab ⟨_, rfl, by show 3 ≤ sizeLine; decide, fun t ht => ⟨t, _, rfl, Or.inr (SqT.of upd_same), rfl, rfl, _, rfl, ?_⟩⟩⟩
      have s5 := s4.trans (same_new (o := .tup [.str "sub", .str "xor", .str "less"]) ht)
      generalize upd H4 t (.tup [.str "sub", .str "xor", .str "less"]) = H5 at *
      have z5 := s5 _ _ hz2
      cases o
      case sub => exact iteP (in_mark (by decide +kernel)) ⟨_, rfl, _, rfl, keep2 (.num 0) z H5 s5 z5 (ret2 .zero H5 s5 rfl (by decide))⟩
      case xor => exact iteP (in_mark (by decide +kernel)) ⟨_, rfl, _, rfl, keep2 (.num 0) z H5 s5 z5 (ret2 .zero H5 s5 rfl (by decide))⟩
      case less => exact iteP (in_mark (by decide +kernel)) ⟨_, rfl, _, rfl, keep2 (.num 0) z H5 s5 z5 (ret2 .zero H5 s5 rfl (by decide))⟩
      all_goals
        refine iteN (nin_mark (by decide +kernel)) ?_
        refine ⟨_, rfl, _, rfl, rfl, _, rfl, iteP dab ⟨_, rfl, by show 2 ≤ sizeLine; decide, fun t ht => ⟨t, _, rfl, Or.inr (SqT.of upd_same), rfl, rfl, _, rfl, ?_⟩⟩⟩
        have s6 := s5.trans (same_new (o := .tup [.str "and", .str "or"]) ht)
        generalize upd H5 t (.tup [.str "and", .str "or"]) = H6 at *
        have one6 := fun q ne => ret2 .one H6 s6 q ne H6 (hl2.news s6) fun b o e _ => e
      case and => exact iteP (in_mark (by decide +kernel)) ⟨_, rfl, one6 rfl (by decide)⟩
      case or => exact iteP (in_mark (by decide +kernel)) ⟨_, rfl, one6 rfl (by decide)⟩
      all_goals
        refine iteN (nin_mark (by decide +kernel)) ?_
      case add =>
        refine ⟨_, rfl, _, rfl, rfl, _, rfl, iteP dab ⟨_, rfl, rfl, _, rfl, iteN (by decide +kernel) ⟨_, rfl, no2 H6 s6 rfl⟩⟩⟩
      case same =>
        refine ⟨_, rfl, _, rfl, rfl, _, rfl, iteP dab ⟨_, rfl, rfl, _, rfl, iteP (by decide +kernel) ⟨_, rfl, by show 2 ≤ sizeLine; decide, fun t ht => ?_⟩⟩⟩
        have s7 := s6.trans (same_new (o := .tup [.str "num", .int 1]) ht)
        exact keep2 (.num 1) t _ s7 upd_same (ret2 .unit _ s7 rfl (by decide))
    · rw [if_neg hab, if_neg hab, ite_self] at ret2 no2
      have dab : ¬ decide (V.int ((a : Nat) : Int) = V.int ((b : Nat) : Int)) = true := dF fun z => hab (by injection z with z; exact Int.ofNat.inj z)
      refine ⟨_, rfl, _, rfl, rfl, _, rfl, iteN dab (iteN (by decide) ?_)⟩
      refine ⟨_, rfl, _, rfl, rfl, _, rfl, iteN dab (iteN (by decide) ?_)⟩
      refine ⟨_, rfl, _, rfl, rfl, _, rfl, iteN dab (iteN (by decide) ?_)⟩
      exact ⟨_, rfl, no2 H4 s4 rfl⟩
end
end My

/-! LC -/
namespace My
open PySem L2
local macro_rules | `(tactic| walk_at "side") => `(tactic| first | with_reducible rfl | assumption | rfl | decide | omega | exact cpow1 (by omega) (by omega) | exact cdiv (by omega) (by omega) | exact two_pos _ | exact SqL.of (by assumption) | exact SqT.of (by assumption) | exact TyX.base (TyOf.int _) | exact TyX.base (TyOf.bl _) | exact TyX.base TyOf.non | exact scal_opt _ _ | exact k_ii | exact k_bi | exact k_ni | exact k_ib | exact k_bb | exact TyX.base (TyOf.lst (by assumption)) | exact k_ll | exact k_lt)
local macro_rules | `(tactic| walk_at "p") => `(tactic| repeat (first | refine And.intro (by walk_at "side") ?_ | apply Exists.intro | refine iteN (by assumption) ?_ | refine iteP (by assumption) ?_ | refine iteN (by decide) ?_ | refine iteP (by decide) ?_))

section
variable {P : Program} {w : World} {K : PySem.W.Frag} {mg : Str → Option Value} {base : Heap}
def sp_law_apply (T : Txt K mg) : Sp := fun vs H Q _ => ∃ (l : Addr) (ps : List Part) (n : Nat) (o : Op) (a b : Nat), vs = [.ref l, .int n, .str o.s, .int a, .int b] ∧ LAt H l ps ∧ ps.length < 999 ∧ n ≤ 12 ∧ a < ps.length ∧ b < ps.length ∧ LMade H l (mApply n ps o a b) Q
theorem sp_law_apply_len {T : Txt K mg} {vs H Q E} (h : sp_law_apply T vs H Q E) : vs.length = 5 := by obtain ⟨_, _, _, _, _, _, rfl, _⟩ := h; rfl
def Part.tag : Part → Str | .num _ => "num" | .get _ => "get" | .op o _ _ => o.s
theorem tag0 (p : Part) : atI p.vals 0 = some (.str p.tag) := by cases p <;> rfl
theorem tag_num {p : Part} (h : p.tag = "num") : ∃ v, p = .num v := by
  cases p with
  | num v => exact ⟨v, rfl⟩
  | get i => exact absurd h (fun z => num_get z.symm)
  | op o a b => exact absurd h (op_ne_num o)
theorem tag_nonum {p : Part} (h : ¬ p.tag = "num") : p.word = none := by
  cases p with
  | num v => exact absurd rfl h
  | get i => rfl
  | op o a b => rfl
theorem mApply_fin {n : Nat} {ps : List Part} {o : Op} {a b : Nat} (h : wordOf ps a = none ∨ wordOf ps b = none) (c d : Nat) (hc : (c, d) = if either o = true ∧ b < a then (b, a) else (a, b)) :
    mApply n ps o a b = fin ps o c d (shortR o (wordOf ps c) (wordOf ps d) (decide (c = d)) (2 ^ n - 1)) := by
  unfold mApply
  split
  · rename_i x y ea eb
    rcases h with h | h
    · rw [h] at ea; cases ea
    · rw [h] at eb; cases eb
  · split
    · rename_i q
      rw [if_pos q] at hc
      cases hc
      rfl
    · rename_i q
      rw [if_neg q] at hc
      cases hc
      rfl
theorem ok_law_apply (T : Txt K mg) : FnOk P w K mg base CX0 3 T.f_law_apply T.fd_law_apply ["_law_parts", "_law_width", "_law_name", "_law_one", "_law_other"] (sp_law_apply T) := by
  have G_law_keep := ok_law_keep (P := P) (w := w) (base := base) T; have G_law_op := ok_law_op (P := P) (w := w) (base := base) T; have G_law_short := ok_law_short (P := P) (w := w) (base := base) T
  refine T.F_law_apply.ok sc_law_apply (fun vs H Q E h => sp_law_apply_len h) (fun cdv A outer s H vs Q E hr h => ?_)
  obtain ⟨l, ps, n, o, a, b, rfl, hl, hn, hw, ha, hb, k⟩ := h
  obtain ⟨xs, hL, ex, hit⟩ := hl.item
  obtain ⟨pa, hpa⟩ : ∃ p, ps[a]? = some p := ⟨_, List.getElem?_eq_getElem ha⟩
  obtain ⟨pb, hpb⟩ : ∃ p, ps[b]? = some p := ⟨_, List.getElem?_eq_getElem hb⟩
  obtain ⟨ta, hta, hTa⟩ := hit a pa hpa
  obtain ⟨tb, htb, hTb⟩ := hit b pb hpb
  refine ⟨_, (Evl.pss_cut (ps_if (PW.pt (pw_and (pt_cmpR op_eq (pe_ix ix_tup (pe_ix ix_list (pv 0) (pv 3) (fun _ _ => rfl)) pe_int (fun _ _ => rfl)) pe_str (nomark _)) (pw_and1 (pt_cmpR op_eq (pe_ix ix_tup (pe_ix ix_list (pv 0) (pv 4) (fun _ _ => rfl)) pe_int (fun _ _ => rfl)) pe_str (nomark _)))))
        (pss_one (ps_ret (pe_call G_law_keep (hr.mono (by decide)) rfl T.g_law_keep T.F_law_keep.kp T.b_law_keep .nil pass0 (pa_cons (pv 0) (pa_cons (pe_tup (pa_cons pe_str (pa_cons (pe_call G_law_op (hr.mono (by decide)) rfl T.g_law_op T.F_law_op.kp T.b_law_op .nil pass0 (pa_cons (pv 2) (pa_cons (pe_ix ix_tup (pe_ix ix_list (pv 0) (pv 3) (fun _ _ => rfl)) pe_int (fun _ _ => rfl)) (pa_cons (pe_ix ix_tup (pe_ix ix_list (pv 0) (pv 4) (fun _ _ => rfl)) pe_int (fun _ _ => rfl)) (pa_cons (pv 1) pa_nil))))) pa_nil))) pa_nil)))))
        pss_nil)
       (Evl.pss_cut (ps_if (PW.pt (pw_and (pt_cmpR op_gt (pv 3) (pv 4) (nomark _)) (pw_and1 (pt_cmpR op_in_seq (pv 2) (pe_tup (pa_cons pe_str (pa_cons pe_str (pa_cons pe_str (pa_cons pe_str (pa_cons pe_str pa_nil)))))) (by rfl)))))
        (pss_one (ps_par (i := 3) (j := 4) (by rfl) sc_law_apply.nd rfl rfl (by decide) rfl rfl (pa_cons (pv 4) (pa_cons (pv 3) pa_nil)) (by rfl)))
        pss_nil)
       (pss_cons (ps_set (i := 5) sc_law_apply.nd rfl (Or.inl rfl) (pe_call G_law_short hr rfl T.g_law_short T.F_law_short.kp T.b_law_short .nil pass0 (pa_cons (pv 0) (pa_cons (pv 1) (pa_cons (pv 2) (pa_cons (pv 3) (pa_cons (pv 4) pa_nil)))))))
       (pss_cons (ps_if (pt_cmpR op_ge (pv 5) pe_int (nomark _))
        (pss_one (ps_ret (pv 5)))
        pss_nil)
       (pss_one (ps_ret (pe_call G_law_keep (hr.mono (by decide)) rfl T.g_law_keep T.F_law_keep.kp T.b_law_keep .nil pass0 (pa_cons (pv 0) (pa_cons (pe_tup (pa_cons (pv 2) (pa_cons (pv 3) (pa_cons (pv 4) pa_nil)))) pa_nil))))))))), ?_⟩
  refine ⟨fun σ' H2 => H2 = H ∧ σ' = [some (.ref l), some (.int (n : Nat)), some (.str o.s), some (.int (a : Nat)), some (.int (b : Nat)), none] ∧ (pa.word = none ∨ pb.word = none), ?_, ?_⟩
  · refine ⟨_, rfl, _, rfl, l, xs, _, _, rfl, rfl, SqL.of hL, at_of rfl hta, ?_⟩
    refine ⟨ta, _, 0, _, rfl, rfl, SqT.of hTa, tag0 pa, rfl, _, rfl, ?_⟩
    by_cases ea : pa.tag = "num"
    · refine iteP (dT (by rw [ea])) ?_
      refine ⟨_, rfl, _, rfl, l, xs, _, _, rfl, rfl, SqL.of hL, at_of rfl htb, tb, _, 0, _, rfl, rfl, SqT.of hTb, tag0 pb, rfl, _, rfl, ?_⟩
      by_cases eb : pb.tag = "num"
      · refine iteP (dT (by rw [eb])) ?_
        obtain ⟨x, rfl⟩ := tag_num ea
        obtain ⟨y, rfl⟩ := tag_num eb
        refine ⟨_, rfl, _, rfl, _, rfl, _, rfl, l, xs, _, _, rfl, rfl, SqL.of hL, at_of rfl hta, ta, _, 1, _, rfl, rfl, SqT.of hTa, rfl, _, rfl, _, rfl, l, xs, _, _, rfl, rfl, SqL.of hL, at_of rfl htb, tb, _, 1, _, rfl, rfl, SqT.of hTb, rfl, _, rfl, ?_⟩
        have em : mApply n ps o a b = mk ps (.num (opI n o x y)) := by unfold mApply; rw [wordOf_at hpa, wordOf_at hpb]; rfl
        rw [em] at k
        refine ⟨o, x, y, n, rfl, hw, by show 2 ≤ sizeLine; decide, fun t ht => ?_⟩
        have s1 := same_new (o := .tup [.str "num", .int (opI n o x y)]) ht
        exact ⟨l, t, ps, .num (opI n o x y), rfl, hl.news s1, upd_same, by omega, k.news s1⟩
      · refine iteN (dF fun z => eb (by injection z)) ?_
        exact ⟨rfl, rfl, .inr (tag_nonum eb)⟩
    · refine iteN (dF fun z => ea (by injection z)) (iteN (by decide) ?_)
      exact ⟨rfl, rfl, .inl (tag_nonum ea)⟩
  · rintro σ' H2 ⟨rfl, rfl, hno⟩
    rw [← wordOf_at hpa, ← wordOf_at hpb] at hno
    refine ⟨fun σ' H3 => Same H2 H3 ∧ ∃ c d, (c, d) = (if either o = true ∧ b < a then (b, a) else (a, b)) ∧ σ' = [some (.ref l), some (.int (n : Nat)), some (.str o.s), some (.int (c : Nat)), some (.int (d : Nat)), none], ?_, ?_⟩
    · refine ⟨_, rfl, _, rfl, _, _, rfl, rfl, _, rfl, ?_⟩
      by_cases hba : b < a
      · refine iteP (dT (by omega)) ⟨_, rfl, by show 5 ≤ sizeLine; decide, fun t ht => ⟨t, _, rfl, Or.inr (SqT.of upd_same), rfl, rfl, _, rfl, ?_⟩⟩
        have s1 := same_new (o := .tup [.str "add", .str "and", .str "or", .str "xor", .str "same"]) ht
        generalize upd H2 t (.tup [.str "add", .str "and", .str "or", .str "xor", .str "same"]) = H3 at *
        cases o
        case sub => exact iteN (nin_mark (by decide +kernel)) ⟨s1, a, b, by rw [if_neg fun z => by cases z.1], rfl⟩
        case less => exact iteN (nin_mark (by decide +kernel)) ⟨s1, a, b, by rw [if_neg fun z => by cases z.1], rfl⟩
        all_goals exact iteP (in_mark (by decide +kernel)) ⟨_, rfl, _, rfl, _, _, rfl, s1, b, a, by rw [if_pos ⟨rfl, hba⟩], rfl⟩
      · refine iteN (dF (by omega)) (iteN (by decide) ?_)
        exact ⟨Same.refl _, a, b, by rw [if_neg fun z => hba z.2], rfl⟩
    · rintro σ' H3 ⟨s1, c, d, hcd, rfl⟩
      rw [mApply_fin hno c d hcd] at k
      have hc : c < ps.length := by split at hcd <;> (cases hcd; assumption)
      have hd : d < ps.length := by split at hcd <;> (cases hcd; assumption)
      refine ⟨_, rfl, _, rfl, _, rfl, _, rfl, _, rfl, ?_⟩
      have hl1 := hl.news s1
      refine ⟨l, ps, n, o, c, d, rfl, hl1, by omega, hw, hc, hd, fun e H4 s4 => ?_, fun ne H4 hl4 s4 => ?_⟩
      · rw [e] at k
        refine ⟨_, rfl, _, _, rfl, rfl, _, rfl, iteN (by decide) ?_⟩
        refine ⟨_, rfl, _, rfl, _, rfl, _, rfl, by show 3 ≤ sizeLine; decide, fun t ht => ?_⟩
        have s5 := same_new (o := .tup [.str o.s, .int (c : Nat), .int (d : Nat)]) ht
        exact ⟨l, t, ps, .op o c d, rfl, hl1.news (s4.trans s5), upd_same, by omega, k.news (s1.trans (s4.trans s5))⟩
      · refine ⟨_, rfl, _, _, rfl, rfl, _, rfl, iteP (dT (by omega)) ⟨_, rfl, ?_⟩⟩
        exact k H4 hl4 fun b o e h => s4 b o (s1 b o e) h
end
end My

/-! LD -/
namespace My
open PySem L2
local macro_rules | `(tactic| walk_at "side") => `(tactic| first | with_reducible rfl | assumption | rfl | decide | omega | exact cpow1 (by omega) (by omega) | exact cdiv (by omega) (by omega) | exact two_pos _ | exact SqL.of (by assumption) | exact SqT.of (by assumption) | exact TyX.base (TyOf.int _) | exact TyX.base (TyOf.bl _) | exact TyX.base TyOf.non | exact scal_opt _ _ | exact k_ii | exact k_bi | exact k_ni | exact k_ib | exact k_bb | exact TyX.base (TyOf.lst (by assumption)) | exact k_ll | exact k_lt)
local macro_rules | `(tactic| walk_at "p") => `(tactic| repeat (first | refine And.intro (by walk_at "side") ?_ | apply Exists.intro | refine iteN (by assumption) ?_ | refine iteP (by assumption) ?_ | refine iteN (by decide) ?_ | refine iteP (by decide) ?_))

section
variable {P : Program} {w : World} {K : PySem.W.Frag} {mg : Str → Option Value} {base : Heap}
theorem tag_get {p : Part} (h : p.tag = "get") : ∃ v, p = .get v := by
  cases p with
  | num v => exact absurd h num_get
  | get i => exact ⟨i, rfl⟩
  | op o a b => exact absurd h (op_ne_get o)
theorem op_tag (o : Op) : ¬ decide (V.str o.s = V.str "get") = true ∧ ¬ decide (V.str o.s = V.str "num") = true := ⟨op_get_f o, op_num_f o⟩
theorem num_get_f : ¬ decide (V.str (Str.ofString "num") = V.str "get") = true := by decide +kernel
def sp_law_part (T : Txt K mg) : Sp := fun vs H Q _ => ∃ (l t L : Addr) (ps : List Part) (n : Nat) (r : Part) (pl : List Nat), vs = [.ref l, .int n, .ref t, .ref L] ∧ LAt H l ps ∧ ps.length < 999 ∧ n ≤ 12 ∧ H t = some (.tup r.vals) ∧ H L = some (.lst (natL pl)) ∧ RowIn n ps r pl ∧ LMade H l (mPart n ps r pl) Q
theorem sp_law_part_len {T : Txt K mg} {vs H Q E} (h : sp_law_part T vs H Q E) : vs.length = 4 := by obtain ⟨_, _, _, _, _, _, _, rfl, _⟩ := h; rfl
theorem ok_law_part (T : Txt K mg) : FnOk P w K mg base CX0 4 T.f_law_part T.fd_law_part ["_law_parts", "_law_width", "_law_row", "_law_places"] (sp_law_part T) := by
  have G_law_apply := ok_law_apply (P := P) (w := w) (base := base) T; have G_law_keep := ok_law_keep (P := P) (w := w) (base := base) T
  refine T.F_law_part.ok sc_law_part (fun vs H Q E h => sp_law_part_len h) (fun cdv A outer s H vs Q E hr h => ?_)
  obtain ⟨l, t, L, ps, n, r, pl, rfl, hl, hn, hw, ht, hL, hR, k⟩ := h
  refine ⟨_, (pss_cons (ps_if (PW.pt (pw_or (pt_cmpR op_eq (pe_ix ix_tup (pv 2) pe_int (fun _ _ => rfl)) pe_str (nomark _)) (pw_or1 (pt_cmpR op_eq (pe_ix ix_tup (pv 2) pe_int (fun _ _ => rfl)) pe_str (nomark _)))))
        (pss_one (ps_ret (pe_call G_law_keep (hr.mono (by decide)) rfl T.g_law_keep T.F_law_keep.kp T.b_law_keep .nil pass0 (pa_cons (pv 0) (pa_cons (pe_tup (pa_cons (pe_ix ix_tup (pv 2) pe_int (fun _ _ => rfl)) (pa_cons (pe_ix ix_tup (pv 2) pe_int (fun _ _ => rfl)) pa_nil))) pa_nil)))))
        pss_nil)
       (pss_one (ps_ret (pe_call G_law_apply hr rfl T.g_law_apply T.F_law_apply.kp T.b_law_apply .nil pass0 (pa_cons (pv 0) (pa_cons (pv 1) (pa_cons (pe_ix ix_tup (pv 2) pe_int (fun _ _ => rfl)) (pa_cons (pe_ix ix_list (pv 3) (pe_ix ix_tup (pv 2) pe_int (fun _ _ => rfl)) (fun _ _ => rfl)) (pa_cons (pe_ix ix_list (pv 3) (pe_ix ix_tup (pv 2) pe_int (fun _ _ => rfl)) (fun _ _ => rfl)) pa_nil))))))))), ?_⟩
  have sz : (2 : Nat) ≤ sizeLine := by show 2 ≤ sizeLine; decide
  have keep : ∀ q : Addr, H q = none → ∀ x : Part, x.vals.length = 2 → mPart n ps r pl = mk ps x → sp_law_keep T [.ref l, .ref q] (upd H q (.tup x.vals)) Q E0 := fun q hq x _ e => by
    rw [e] at k
    exact ⟨l, q, ps, x, rfl, hl.news (same_new hq), upd_same, by omega, k.news (same_new hq)⟩
  refine ⟨_, rfl, t, _, 0, _, rfl, rfl, SqT.of ht, tag0 r, rfl, _, rfl, ?_⟩
  cases r with
  | get i =>
    refine iteP (dT rfl) (iteP rfl ?_)
    exact ⟨_, rfl, _, rfl, t, _, 0, _, rfl, rfl, SqT.of ht, rfl, _, rfl, t, _, 1, _, rfl, rfl, SqT.of ht, rfl, sz, fun q hq => keep q hq (.get i) rfl rfl⟩
  | num i =>
    refine iteN num_get_f ?_
    refine ⟨_, rfl, t, _, 0, _, rfl, rfl, SqT.of ht, rfl, rfl, _, rfl, iteP (dT rfl) ?_⟩
    exact ⟨_, rfl, _, rfl, t, _, 0, _, rfl, rfl, SqT.of ht, rfl, _, rfl, t, _, 1, _, rfl, rfl, SqT.of ht, rfl, sz, fun q hq => keep q hq (.num i) rfl rfl⟩
  | op o a b =>
    obtain ⟨ha, hb⟩ := hR.ahead o a b rfl
    refine iteN (op_get_f o) ?_
    refine ⟨_, rfl, t, _, 0, _, rfl, rfl, SqT.of ht, rfl, rfl, _, rfl, iteN (op_num_f o) ?_⟩
    refine ⟨_, rfl, _, rfl, _, rfl, t, _, 0, _, rfl, rfl, SqT.of ht, rfl, _, rfl, _, rfl, t, _, 1, _, rfl, rfl, SqT.of ht, rfl, L, _, _, _, rfl, rfl, SqL.of hL, natL_at ha, _, rfl, _, rfl, t, _, 2, _, rfl, rfl, SqT.of ht, rfl, L, _, _, _, rfl, rfl, SqL.of hL, natL_at hb, ?_⟩
    exact ⟨l, ps, n, o, _, _, rfl, hl, hn, hw, hR.at ha, hR.at hb, k⟩
def sp_law_asked (T : Txt K mg) : Sp := fun vs H Q _ => ∃ (a l d t L : Addr) (ps : List Part) (n : Nat) (r : Part) (pl : List Nat), vs = [.ref a, .ref t, .ref L] ∧ PoolAt T.C H a l d n ps ∧ ps.length < 3999 ∧ n ≤ 12 ∧ H t = some (.tup r.vals) ∧ H L = some (.lst (natL pl)) ∧ RowIn n ps r pl ∧ Made T.C H a l d n (mPart n ps r pl) Q
theorem sp_law_asked_len {T : Txt K mg} {vs H Q E} (h : sp_law_asked T vs H Q E) : vs.length = 3 := by obtain ⟨_, _, _, _, _, _, _, _, _, rfl, _⟩ := h; rfl
theorem ok_law_asked (T : Txt K mg) : FnOk P w K mg base (L2.CX P w) 5 T.f_law_asked T.fd_law_asked ["_law_pool", "_law_row", "_law_places"] (sp_law_asked T) := by
  have G_p_apply := ok_p_apply (P := P) (w := w) (base := base) T; have G_p_num := ok_p_num (P := P) (w := w) (base := base) T; have G_p_unknown := ok_p_unknown (P := P) (w := w) (base := base) T; have G_TooMany_init := ok_TooMany_init (P := P) (w := w) (base := base) T
  refine T.F_law_asked.okX sc_law_asked (fun vs H Q E h => sp_law_asked_len h) (fun cdv A outer s H vs Q E hr h => ?_)
  obtain ⟨a, l, d, t, L, ps, n, r, pl, rfl, hp, hn, hw, ht, hL, hR, k⟩ := h
  obtain ⟨dx, ho⟩ := id hp.ob
  refine ⟨_, (pss_cons (ps_if (pt_cmpR op_eq (pe_ix ix_tup (pv 1) pe_int (fun _ _ => rfl)) pe_str (nomark _))
        (pss_one (ps_ret (pe_meth (pv 0) T.cl T.m_p_unknown G_p_unknown hr T.b_p_unknown .nil (passes_call (takes_of rfl rfl rfl rfl) (fun _ _ _ _ h => h)) (pa_cons (pe_ix ix_tup (pv 1) pe_int (fun _ _ => rfl)) pa_nil))))
        pss_nil)
       (pss_cons (ps_if (pt_cmpR op_eq (pe_ix ix_tup (pv 1) pe_int (fun _ _ => rfl)) pe_str (nomark _))
        (pss_one (ps_ret (pe_meth (pv 0) T.cl T.m_p_num G_p_num hr T.b_p_num .nil (passes_call (takes_of rfl rfl rfl rfl) (fun _ _ _ _ h => h)) (pa_cons (pe_ix ix_tup (pv 1) pe_int (fun _ _ => rfl)) pa_nil))))
        pss_nil)
       (pss_one (ps_ret (pe_meth (pv 0) T.cl T.m_p_apply G_p_apply hr T.b_p_apply .nil (passes_call (takes_of rfl rfl rfl rfl) (fun _ _ _ _ h => h)) (pa_cons (pe_ix ix_tup (pv 1) pe_int (fun _ _ => rfl)) (pa_cons (pe_ix ix_list (pv 2) (pe_ix ix_tup (pv 1) pe_int (fun _ _ => rfl)) (fun _ _ => rfl)) (pa_cons (pe_ix ix_list (pv 2) (pe_ix ix_tup (pv 1) pe_int (fun _ _ => rfl)) (fun _ _ => rfl)) pa_nil)))))))), ?_⟩
  refine ⟨_, rfl, t, _, 0, _, rfl, rfl, SqT.of ht, tag0 r, rfl, _, rfl, ?_⟩
  cases r with
  | get i =>
    have hi := hR.ok
    refine iteP (dT rfl) ?_
    refine ⟨_, rfl, a, dx, _, rfl, ho, no_meth (by decide +kernel), _, rfl, t, _, 1, _, rfl, rfl, SqT.of ht, rfl, ?_⟩
    exact ⟨a, l, d, n, ps, i, rfl, hp, by omega, hi.1, hi.2, k.x (Nat.le_trans (mk_len _ _) (by omega))⟩
  | num i =>
    have hi : 0 ≤ i ∧ i < 2 ^ n := hR.ok
    refine iteN num_get_f ?_
    refine ⟨_, rfl, t, _, 0, _, rfl, rfl, SqT.of ht, rfl, rfl, _, rfl, iteP (dT rfl) ?_⟩
    refine ⟨_, rfl, a, dx, _, rfl, ho, no_meth (by decide +kernel), _, rfl, t, _, 1, _, rfl, rfl, SqT.of ht, rfl, ?_⟩
    exact ⟨a, l, d, n, ps, i, rfl, hp, by omega, hi.1, by omega, k.x (Nat.le_trans (mk_len _ _) (by omega))⟩
  | op o x y =>
    obtain ⟨hx, hy⟩ := hR.ahead o x y rfl
    refine iteN (op_get_f o) ?_
    refine ⟨_, rfl, t, _, 0, _, rfl, rfl, SqT.of ht, rfl, rfl, _, rfl, iteN (op_num_f o) ?_⟩
    refine ⟨_, rfl, a, dx, _, rfl, ho, no_meth (by decide +kernel), _, rfl, t, _, 0, _, rfl, rfl, SqT.of ht, rfl, _, rfl, _, rfl, t, _, 1, _, rfl, rfl, SqT.of ht, rfl, L, _, _, _, rfl, rfl, SqL.of hL, natL_at hx, _, rfl, _, rfl, t, _, 2, _, rfl, rfl, SqT.of ht, rfl, L, _, _, _, rfl, rfl, SqL.of hL, natL_at hy, ?_⟩
    exact ⟨a, l, d, n, ps, o, _, _, rfl, hp, by omega, hw, hR.at hx, hR.at hy, k.x (Nat.le_trans (mApply_len _ _ _ _ _) (by omega))⟩
end
end My

/-! R6S -/
namespace My
open PySem L2
/-! ### marks, from the back, for several -/
structure MInvS (ps : List Part) (S : List Nat) (m : List Bool) (done : Nat) : Prop where
  len : m.length = ps.length
  rch : ∀ k, m[k]? = some true → ReachS ps S k
  root : ∀ i ∈ S, m[i]? = some true
  clo : ∀ k o a b, ps.length ≤ k + done → m[k]? = some true → ps[k]? = some (Part.op o a b) → m[a]? = some true ∧ m[b]? = some true
def marks (N : Nat) (S : List Nat) : List Bool := S.foldl (fun m i => m.set i true) (List.replicate N false)
theorem marks_snoc (N : Nat) (S : List Nat) (i : Nat) : marks N (S ++ [i]) = (marks N S).set i true := by unfold marks; rw [List.foldl_append]; rfl
theorem marks_len (N : Nat) (S : List Nat) : (marks N S).length = N := by
  refine snoc_ind (C := fun S => (marks N S).length = N) (by simp [marks]) (fun l x h => ?_) S
  rw [marks_snoc, List.length_set]; exact h
theorem marks_iff (N : Nat) : ∀ S : List Nat, ∀ k, (marks N S)[k]? = some true → k ∈ S := by
  refine snoc_ind (C := fun S => ∀ k, (marks N S)[k]? = some true → k ∈ S) (fun k h => ?_) (fun l x ih k h => ?_)
  · unfold marks at h
    simp only [List.foldl_nil, List.getElem?_replicate] at h
    split at h <;> cases h
  · rw [marks_snoc] at h
    rcases set_mark h with rfl | h
    · simp
    · exact List.mem_append_left _ (ih k h)
theorem marks_all (N : Nat) : ∀ S : List Nat, (∀ i ∈ S, i < N) → ∀ i ∈ S, (marks N S)[i]? = some true := by
  refine snoc_ind (C := fun S => (∀ i ∈ S, i < N) → ∀ i ∈ S, (marks N S)[i]? = some true) (fun _ i h => by simp at h) (fun l x ih h i hi => ?_)
  rw [marks_snoc]
  rcases List.mem_append.mp hi with hi | hi
  · exact set_mono (ih (fun j hj => h j (List.mem_append_left _ hj)) i hi)
  · simp at hi; subst hi
    exact set_self (by rw [marks_len]; exact h i (by simp))
theorem MInvS.start {ps : List Part} {S : List Nat} (hS : ∀ i ∈ S, i < ps.length) : MInvS ps S (marks ps.length S) 0 :=
  ⟨marks_len _ _, fun k h => .self (marks_iff _ _ k h), marks_all _ _ hS, fun k o a b hk h e => by have := (List.getElem?_eq_some_iff.mp e).1; omega⟩
theorem MInvS.skip {ps : List Part} {S : List Nat} {at_ done : Nat} {m : List Bool} (h : MInvS ps S m done) (e : at_ + done + 1 = ps.length) (no : m[at_]? = some true → ∀ o a b, ps[at_]? ≠ some (Part.op o a b)) : MInvS ps S m (done + 1) :=
  ⟨h.len, h.rch, h.root, fun k o a b hk hm hp => by
    by_cases ek : k = at_
    · subst ek; exact absurd hp (no hm o a b)
    · exact h.clo k o a b (by omega) hm hp⟩
theorem MInvS.mark {ps : List Part} {S : List Nat} {at_ done : Nat} {m : List Bool} {o : Op} {a b : Nat} (h : MInvS ps S m done) (wf : WF ps) (e : at_ + done + 1 = ps.length) (hm : m[at_]? = some true) (hp : ps[at_]? = some (Part.op o a b)) : MInvS ps S ((m.set a true).set b true) (done + 1) := by
  have ab := wf _ _ _ _ hp
  have hr := h.rch _ hm
  refine ⟨by simp [h.len], fun k hk => ?_, fun i hi => set_mono (set_mono (h.root i hi)), fun k o' a' b' hk hm' hp' => ?_⟩
  · rcases set_mark hk with rfl | hk
    · exact .right hr hp
    · rcases set_mark hk with rfl | hk
      · exact .left hr hp
      · exact h.rch _ hk
  · by_cases ek : k = at_
    · subst ek
      rw [hp] at hp'
      cases hp'
      exact ⟨set_mono (set_self (by rw [h.len]; omega)), set_self (by rw [List.length_set, h.len]; omega)⟩
    · have hk2 : m[k]? = some true := by
        rcases set_mark hm' with rfl | hm'
        · omega
        · rcases set_mark hm' with rfl | hm'
          · omega
          · exact hm'
      have := h.clo k o' a' b' (by omega) hk2 hp'
      exact ⟨set_mono (set_mono this.1), set_mono (set_mono this.2)⟩
theorem MInvS.done {ps : List Part} {S : List Nat} {m : List Bool} (h : MInvS ps S m ps.length) (wf : WF ps) (hS : ∀ i ∈ S, i < ps.length) : ReachLS ps S (markL m ps.length) := by
  refine ⟨List.Pairwise.filter _ List.pairwise_lt_range, fun k => ?_⟩
  have back : ReachS ps S k → m[k]? = some true := by
    rintro ⟨i, hi, r⟩
    induction r with
    | self => exact h.root _ hi
    | left r e ih => exact (h.clo _ _ _ _ (by omega) ih e).1
    | right r e ih => exact (h.clo _ _ _ _ (by omega) ih e).2
  unfold markL
  rw [List.mem_filter, List.mem_range]
  exact ⟨fun z => h.rch k (of_decide_eq_true z.2), fun r => ⟨r.lt wf hS, decide_eq_true (back r)⟩⟩
end My

/-! LE -/
namespace My
open PySem L2
local macro_rules | `(tactic| walk_at "side") => `(tactic| first | with_reducible rfl | assumption | rfl | decide | omega | exact cpow1 (by omega) (by omega) | exact cdiv (by omega) (by omega) | exact two_pos _ | exact SqL.of (by assumption) | exact SqT.of (by assumption) | exact TyX.base (TyOf.int _) | exact TyX.base (TyOf.bl _) | exact TyX.base TyOf.non | exact scal_opt _ _ | exact k_ii | exact k_bi | exact k_ni | exact k_ib | exact k_bb | exact TyX.base (TyOf.lst (by assumption)) | exact k_ll | exact k_lt)
local macro_rules | `(tactic| walk_at "p") => `(tactic| repeat (first | refine And.intro (by walk_at "side") ?_ | apply Exists.intro | refine iteN (by assumption) ?_ | refine iteP (by assumption) ?_ | refine iteN (by decide) ?_ | refine iteP (by decide) ?_))

section
variable {P : Program} {w : World} {K : PySem.W.Frag} {mg : Str → Option Value} {base : Heap}
end
end My

/-! LG -/
namespace My
open PySem L2
local macro_rules | `(tactic| walk_at "side") => `(tactic| first | with_reducible rfl | assumption | rfl | decide | omega | exact cpow1 (by omega) (by omega) | exact cdiv (by omega) (by omega) | exact two_pos _ | exact SqL.of (by assumption) | exact SqT.of (by assumption) | exact TyX.base (TyOf.int _) | exact TyX.base (TyOf.bl _) | exact TyX.base TyOf.non | exact scal_opt _ _ | exact k_ii | exact k_bi | exact k_ni | exact k_ib | exact k_bb | exact TyX.base (TyOf.lst (by assumption)) | exact k_ll | exact k_lt)
local macro_rules | `(tactic| walk_at "p") => `(tactic| repeat (first | refine And.intro (by walk_at "side") ?_ | apply Exists.intro | refine iteN (by assumption) ?_ | refine iteP (by assumption) ?_ | refine iteN (by decide) ?_ | refine iteP (by decide) ?_))

section
variable {P : Program} {w : World} {K : PySem.W.Frag} {mg : Str → Option Value} {base : Heap}
/-- the rows at the list l, that was not there in H0 -/
structure RowsAt (H0 H : Hp) (p : Addr) (l : Addr) (rs : List Part) : Prop where
  at_ : LAt H l rs
  keep : ∀ b o, H0 b = some o → b ≠ p → H b = some o
theorem RowsAt.push {H0 H : Hp} {p l t : Addr} {rs : List Part} {r : Part} {xs : List V} (h : RowsAt H0 H p l rs) (h0 : H0 l = none) (hx : H l = some (.lst xs)) (ht : H t = some (.tup r.vals)) : RowsAt H0 (upd H l (.lst (xs ++ [.ref t]))) p l (rs ++ [r]) := by
  have tl : t ≠ l := ne_of ht hx (by intro z; cases z)
  refine ⟨h.at_.push hx (fun b ys e => by rw [upd_ne (ne_of e hx (by intro z; cases z))]; exact e) upd_same (by rw [upd_ne tl]; exact ht), fun b o e hb => ?_⟩
  rw [upd_ne (ne_of_none e h0)]; exact h.keep b o e hb
theorem RowsAt.news {H0 H H' : Hp} {p l : Addr} {rs : List Part} (h : RowsAt H0 H p l rs) (s : Same H H') : RowsAt H0 H' p l rs := ⟨h.at_.news s, fun b o e hb => s _ _ (h.keep b o e hb)⟩
theorem RowsAt.but {H0 H H' : Hp} {p l : Addr} {rs : List Part} {ns : List V} (h : RowsAt H0 H p l rs) (hp : H p = some (.lst ns)) (hl : l ≠ p) (s : ∀ b o, H b = some o → b ≠ p → H' b = some o) : RowsAt H0 H' p l rs :=
  ⟨h.at_.keep (S := fun b => b = p) (fun b o e hb => s b o e hb) hl fun t xs e => ne_of e hp (by intro z; cases z), fun b o e hb => s _ _ (h.keep b o e hb) hb⟩
theorem RowsAt.take {H0 H H' : Hp} {p q l : Addr} {rs : List Part} (h : RowsAt H0 H p l rs) (d : Dr H p q) (hl : l ≠ p) (s : ∀ b o, H b = some o → b ≠ p → H' b = some o) : RowsAt H0 H' p l rs := by
  obtain ⟨_, _, h1, _⟩ := d
  exact h.but h1 hl s
theorem Dr.upd {H : Hp} {p q l : Addr} {o : HO} (h : Dr H p q) (lp : l ≠ p) (lq : l ≠ q) : Dr (upd H l o) p q :=
  h.keep (S := fun b => b = l) (fun b o e hb => by rw [upd_ne hb]; exact e) (fun e => lp e.symm) (fun e => lq e.symm)
def plainL : List V := [.str "add", .str "xor", .str "sub", .str "and", .str "or"]
theorem op_at {v : Int} (h0 : 0 ≤ v) (h1 : v < 7) : ∃ o : Op, atI opList v = some (.str o.s) := by
  have : v = 0 ∨ v = 1 ∨ v = 2 ∨ v = 3 ∨ v = 4 ∨ v = 5 ∨ v = 6 := by omega
  rcases this with rfl | rfl | rfl | rfl | rfl | rfl | rfl
  · exact ⟨.add, rfl⟩
  · exact ⟨.xor, rfl⟩
  · exact ⟨.sub, rfl⟩
  · exact ⟨.and, rfl⟩
  · exact ⟨.same, rfl⟩
  · exact ⟨.or, rfl⟩
  · exact ⟨.less, rfl⟩
theorem plain_at {v : Int} (h0 : 0 ≤ v) (h1 : v < 5) : ∃ o : Op, atI plainL v = some (.str o.s) ∧ o ≠ .less ∧ o ≠ .same := by
  have : v = 0 ∨ v = 1 ∨ v = 2 ∨ v = 3 ∨ v = 4 := by omega
  rcases this with rfl | rfl | rfl | rfl | rfl
  · exact ⟨.add, rfl, by decide, by decide⟩
  · exact ⟨.xor, rfl, by decide, by decide⟩
  · exact ⟨.sub, rfl, by decide, by decide⟩
  · exact ⟨.and, rfl, by decide, by decide⟩
  · exact ⟨.or, rfl, by decide, by decide⟩
def sp_law_term_rows (T : Txt K mg) : Sp := fun vs H Q _ => ∃ (p q : Addr) (u n m : Nat) (plain : Bool), vs = [.ref p, .int u, .int n, .int m, .bl plain] ∧ Dr H p q ∧ p ≠ q ∧ 1 ≤ n ∧ n ≤ 12 ∧ u ≤ 3 ∧ m ≤ 10 ∧
  ∀ (H' : Hp) (l : Addr) (rs : List Part), H l = none → Dr H' p q → RowsAt H H' p l rs → Rows n u plain rs → rs.length = u + 1 + m → Q (.ref l) H'
theorem sp_law_term_rows_len {T : Txt K mg} {vs H Q E} (h : sp_law_term_rows T vs H Q E) : vs.length = 5 := by obtain ⟨_, _, _, _, _, _, rfl, _⟩ := h; rfl
theorem ok_law_term_rows (T : Txt K mg) : FnOk P w K mg base CX0 3 T.f_law_term_rows T.fd_law_term_rows ["_law_draws_here", "_law_unknowns", "_law_width", "_law_many", "_law_plain"] (sp_law_term_rows T) := by
  have G_law_ops := ok_law_ops (P := P) (w := w) (base := base) T; have G_law_take := ok_law_take (P := P) (w := w) (base := base) T; have G_law_word := ok_law_word (P := P) (w := w) (base := base) T
  refine T.F_law_term_rows.ok sc_law_term_rows (fun vs H Q E h => sp_law_term_rows_len h) (fun cdv A outer s H vs Q E hr h => ?_)
  obtain ⟨p, q, u, n, m, plain, rfl, hd, hpq, n1, n12, u3, m9, k⟩ := h
  refine ⟨_, (pss_cons (ps_set (i := 5) sc_law_term_rows.nd rfl (Or.inl rfl) (pe_lst pa_nil))
       (pss_cons (ps_for PassesOwn.never rfl (pi_range1 (by rfl) T.n_range (pa_cons (pv 1) pa_nil)) (pg_name (i := 6) sc_law_term_rows.nd rfl (Or.inl rfl))
        (pss_one (ps_expr (pe_bm PySem.F.plainAttrs_list PySem.F.slot_list_append PySem.F.type_list_append mt_append (pv 5) (pa_cons (pe_tup (pa_cons pe_str (pa_cons (pv 6) pa_nil))) pa_nil)))))
       (pss_cons (ps_expr (pe_bm PySem.F.plainAttrs_list PySem.F.slot_list_append PySem.F.type_list_append mt_append (pv 5) (pa_cons (pe_tup (pa_cons pe_str (pa_cons (pe_call G_law_word hr rfl T.g_law_word T.F_law_word.kp T.b_law_word .nil pass0 (pa_cons (pv 0) (pa_cons (pv 2) pa_nil))) pa_nil))) pa_nil)))
       (pss_cons (ps_for PassesOwn.never rfl (pi_range1 (by rfl) T.n_range (pa_cons (pv 3) pa_nil)) (pg_name (i := 7) sc_law_term_rows.nd rfl (Or.inl rfl))
        (pss_cons (ps_set (i := 8) sc_law_term_rows.nd rfl (Or.inl rfl) (pe_call0 G_law_ops (hr.mono (by decide)) rfl T.g_law_ops T.F_law_ops.kp T.b_law_ops .nil pass0))
       (Evl.pss_cut (ps_if (pt_val (pv 4))
        (pss_one (ps_set (i := 8) sc_law_term_rows.nd rfl (Or.inl rfl) (pe_lst (pa_cons pe_str (pa_cons pe_str (pa_cons pe_str (pa_cons pe_str (pa_cons pe_str pa_nil))))))))
        pss_nil)
       (pss_cons (ps_set (i := 9) sc_law_term_rows.nd rfl (Or.inl rfl) (pe_ix ix_list (pv 8) (pe_call G_law_take (hr.mono (by decide)) rfl T.g_law_take T.F_law_take.kp T.b_law_take .nil pass0 (pa_cons (pv 0) (pa_cons (pe_callB call_lenL (by rfl) T.n_len (by decide +kernel) (pa_cons (pv 8) pa_nil)) pa_nil))) (fun _ _ => rfl)))
       (pss_cons (ps_set (i := 10) sc_law_term_rows.nd rfl (Or.inl rfl) (pe_op op_sub (pe_op op_sub (pe_callB call_lenL (by rfl) T.n_len (by decide +kernel) (pa_cons (pv 5) pa_nil)) pe_int) (pe_call G_law_take (hr.mono (by decide)) rfl T.g_law_take T.F_law_take.kp T.b_law_take .nil pass0 (pa_cons (pv 0) (pa_cons (pe_callB (call_min2 rfl) (by rfl) T.n_min (by decide +kernel) (pa_cons pe_int (pa_cons (pe_callB call_lenL (by rfl) T.n_len (by decide +kernel) (pa_cons (pv 5) pa_nil)) pa_nil))) pa_nil)))))
       (pss_cons (ps_set (i := 11) sc_law_term_rows.nd rfl (Or.inl rfl) (pe_call G_law_take (hr.mono (by decide)) rfl T.g_law_take T.F_law_take.kp T.b_law_take .nil pass0 (pa_cons (pv 0) (pa_cons (pe_callB call_lenL (by rfl) T.n_len (by decide +kernel) (pa_cons (pv 5) pa_nil)) pa_nil))))
       (pss_one (ps_if (pt_cmpR op_eq (pe_call G_law_take (hr.mono (by decide)) rfl T.g_law_take T.F_law_take.kp T.b_law_take .nil pass0 (pa_cons (pv 0) (pa_cons pe_int pa_nil))) pe_int (nomark _))
        (pss_one (ps_expr (pe_bm PySem.F.plainAttrs_list PySem.F.slot_list_append PySem.F.type_list_append mt_append (pv 5) (pa_cons (pe_tup (pa_cons pe_str (pa_cons (pe_call G_law_word hr rfl T.g_law_word T.F_law_word.kp T.b_law_word .nil pass0 (pa_cons (pv 0) (pa_cons (pv 2) pa_nil))) pa_nil))) pa_nil))))
        (pss_one (ps_expr (pe_bm PySem.F.plainAttrs_list PySem.F.slot_list_append PySem.F.type_list_append mt_append (pv 5) (pa_cons (pe_tup (pa_cons (pv 9) (pa_cons (pv 10) (pa_cons (pv 11) pa_nil)))) pa_nil))))))))))))
       (pss_one (ps_ret (pv 5))))))), ?_⟩
  have sz : sizeLine = 16777216 := sizeLine_eq
  refine ⟨Nat.zero_le _, fun l hl => ?_⟩
  have s1 := same_new (o := .lst []) hl
  have lp : l ≠ p := by obtain ⟨_, _, h1, _⟩ := hd; exact fun e => by rw [e, h1] at hl; cases hl
  have lq : l ≠ q := by obtain ⟨_, _, _, h1, _⟩ := hd; exact fun e => by rw [e, h1] at hl; cases hl
  -- one row put at the end
  have push : ∀ (H1 : Hp) (rs : List Part) (r : Part) (t : Addr) (xs : List V), Dr H1 p q → RowsAt H H1 p l rs → Rows n u plain rs → RowOk n u plain rs.length r → H1 l = some (.lst xs) → H1 t = none →
      Dr (upd (upd H1 t (.tup r.vals)) l (.lst (xs ++ [.ref t]))) p q ∧ RowsAt H (upd (upd H1 t (.tup r.vals)) l (.lst (xs ++ [.ref t]))) p l (rs ++ [r]) ∧ Rows n u plain (rs ++ [r]) := by
    intro H1 rs r t xs d ra ro rk hX ht
    have s := same_new (o := .tup r.vals) ht
    exact ⟨(d.news s).upd lp lq, (ra.news s).push hl (s _ _ hX) upd_same, ro.snoc rk⟩
  refine ⟨_, rfl, u, rfl, by omega, by omega, ?_⟩
  refine for_range (lo := 0) (n := ((u : Nat) : Int).toNat) (fun j σ' H1 => ∃ (v6 : Option V) (rs : List Part), σ' = [some (.ref p), some (.int (u : Nat)), some (.int (n : Nat)), some (.int (m : Nat)), some (.bl plain), some (.ref l), v6, none, none, none, none, none] ∧ Dr H1 p q ∧ RowsAt H H1 p l rs ∧ Rows n u plain rs ∧ rs.length = j)
    ⟨none, [], rfl, hd.news s1, ⟨⟨[], upd_same, rfl, fun i q e => by simp at e⟩, fun b o e _ => s1 b o e⟩, rows_nil _ _ _, rfl⟩ ?_ ?_
  · rintro j σ' H1 hj ⟨v6, rs, rfl, d1, ra, ro, hlen⟩
    rw [Int.toNat_natCast] at hj
    obtain ⟨xs, hX, ex, _⟩ := ra.at_.item
    refine ⟨_, rfl, .inl ⟨rfl, _, SqL.of hX⟩, _, rfl, by show 2 ≤ sizeLine; decide, fun t ht => ?_⟩
    obtain ⟨d2, ra2, ro2⟩ := push H1 rs (.get (0 + (j : Nat))) t xs d1 ra ro ⟨trivial, ⟨by omega, by omega⟩, fun g e => (by cases e; omega), fun _ o a b e => by cases e⟩ hX ht
    have hX2 : upd H1 t (.tup (Part.get (0 + (j : Nat))).vals) l = some (.lst xs) := by rw [upd_ne (ne_of_none hX ht)]; exact hX
    exact ⟨l, _, _, rfl, rfl, hX2, by omega, some (.int (0 + (j : Nat))), _, rfl, d2, ra2, ro2, by simp [hlen]⟩
  rintro σ' H1 ⟨v6, rs, rfl, d1, ra, ro, hlen⟩
  rw [Int.toNat_natCast] at hlen
  obtain ⟨xs, hX, ex, _⟩ := ra.at_.item
  refine ⟨_, rfl, .inl ⟨rfl, _, SqL.of hX⟩, _, rfl, _, rfl, p, q, n, rfl, d1, hpq, n12, fun H2 v v0 v1 d2 k2 => ?_⟩
  have ra2 := ra.take d1 lp k2
  have hX2 := k2 _ _ hX lp
  refine ⟨by show 2 ≤ sizeLine; decide, fun t ht => ?_⟩
  obtain ⟨d3, ra3, ro3⟩ := push H2 rs (.num v) t xs d2 ra2 ro ⟨trivial, ⟨v0, v1⟩, fun g e => (by cases e), fun _ o a b e => by cases e⟩ hX2 ht
  have hX3 : upd H2 t (.tup (Part.num v).vals) l = some (.lst xs) := by rw [upd_ne (ne_of_none hX2 ht)]; exact hX2
  refine ⟨l, _, _, rfl, rfl, hX3, by omega, ?_⟩
  -- the operations
  refine ⟨_, rfl, m, rfl, by omega, by omega, ?_⟩
  refine for_range (lo := 0) (n := ((m : Nat) : Int).toNat) (fun j σ' H1 => ∃ (v7 v8 v9 v10 v11 : Option V) (rs : List Part), σ' = [some (.ref p), some (.int (u : Nat)), some (.int (n : Nat)), some (.int (m : Nat)), some (.bl plain), some (.ref l), v6, v7, v8, v9, v10, v11] ∧ Dr H1 p q ∧ RowsAt H H1 p l rs ∧ Rows n u plain rs ∧ rs.length = u + 1 + j)
    ⟨none, none, none, none, none, _, rfl, d3, ra3, ro3, by simp [hlen]⟩ ?_ ?_
  · rintro j σ' H1 hj ⟨v7, v8, v9, v10, v11, rs, rfl, d1, ra, ro, hlen⟩
    rw [Int.toNat_natCast] at hj
    obtain ⟨xs, hX, ex, _⟩ := ra.at_.item
    refine ⟨rfl, fun N hN => ?_⟩
    have sN := same_new (o := .lst opList) hN
    have pN : p ≠ N := by obtain ⟨_, _, h1, _⟩ := d1; exact ne_of_none h1 hN
    refine ⟨fun σ' H2 => ∃ (N : Addr) (L : List V), σ' = [some (.ref p), some (.int (u : Nat)), some (.int (n : Nat)), some (.int (m : Nat)), some (.bl plain), some (.ref l), v6, some (.int (0 + (j : Nat))), some (.ref N), v9, v10, v11] ∧ Same H1 H2 ∧ N ≠ p ∧ H2 N = some (.lst L) ∧ (L = opList ∧ plain = false ∨ L = plainL), ?_, ?_⟩
    · refine ⟨_, rfl, plain, rfl, ?_⟩
      cases plain with
      | true =>
        refine iteP rfl ⟨by show 5 ≤ sizeLine; decide, fun M hM => ?_⟩
        refine ⟨M, plainL, rfl, sN.trans (same_new hM), fun e => ?_, upd_same, .inr rfl⟩
        obtain ⟨_, _, h1, _⟩ := d1.news sN
        rw [e, h1] at hM; cases hM
      | false => exact iteN (by decide) ⟨N, opList, rfl, sN, pN.symm, upd_same, .inl ⟨rfl, rfl⟩⟩
    rintro σ' H2 ⟨N, L, rfl, s2, Np, hNL, hL⟩
    have d2 := d1.news s2
    have ra2 := ra.news s2
    have L5 : 0 < L.length := by rcases hL with ⟨e, _⟩ | e <;> rw [e] <;> decide
    refine ⟨_, rfl, _, rfl, _, rfl, N, L, rfl, SqL.of hNL, p, q, _, rfl, d2, hpq, by omega, fun H3 x x0 x1 d3 k3 => ?_⟩
    have ra3 := ra2.take d2 lp k3
    have hX3 := k3 _ _ (s2 _ _ hX) lp
    obtain ⟨o, ho, hpl⟩ : ∃ o : Op, atI L x = some (.str o.s) ∧ (plain = true → o ≠ .less ∧ o ≠ .same) := by
      rcases hL with ⟨e, e2⟩ | e
      · subst e
        obtain ⟨o, ho⟩ := op_at x0 x1
        exact ⟨o, ho, fun z => by rw [e2] at z; cases z⟩
      · subst e
        obtain ⟨o, ho, h1, h2⟩ := plain_at x0 x1
        exact ⟨o, ho, fun _ => ⟨h1, h2⟩⟩
    refine ⟨N, L, _, _, rfl, rfl, SqL.of (k3 _ _ hNL Np), ho, ?_⟩
    have hpos : (0 : Int) < if ((xs.length : Nat) : Int) < 3 then ((xs.length : Nat) : Int) else 3 := by split <;> omega
    refine ⟨_, rfl, l, xs, rfl, SqL.of hX3, _, _, rfl, rfl, _, rfl, _, rfl, l, xs, rfl, SqL.of hX3, _, _, rfl, p, q, _, rfl, d3, hpq, hpos, fun H4 y y0 y1 d4 k4 => ?_⟩
    have ra4 := ra3.take d3 lp k4
    have hX4 := k4 _ _ hX3 lp
    have y2 : y < (xs.length : Nat) := by split at y1 <;> omega
    obtain ⟨a, ea⟩ : ∃ a : Nat, ((xs.length : Nat) : Int) - 1 - y = (a : Nat) := ⟨xs.length - 1 - y.toNat, by omega⟩
    refine ⟨_, _, rfl, rfl, ?_⟩
    refine ⟨_, rfl, _, rfl, l, xs, rfl, SqL.of hX4, p, q, _, rfl, d4, hpq, by omega, fun H5 z z0 z1 d5 k5 => ?_⟩
    have ra5 := ra4.take d4 lp k5
    have hX5 := k5 _ _ hX4 lp
    obtain ⟨b, rfl⟩ := Int.eq_ofNat_of_zero_le z0
    -- a number, or an operation
    refine ⟨_, rfl, p, q, _, rfl, d5, hpq, by decide, fun H6 c c0 c1 d6 k6 => ⟨rfl, _, rfl, ?_⟩⟩
    have ra6 := ra5.take d5 lp k6
    have hX6 := k6 _ _ hX5 lp
    by_cases hc : c = 5
    · refine iteP (dT (by rw [hc])) ?_
      refine ⟨_, rfl, .inl ⟨rfl, _, SqL.of hX6⟩, _, rfl, _, rfl, p, q, n, rfl, d6, hpq, n12, fun H7 v v0 v1 d7 k7 => ?_⟩
      have ra7 := ra6.take d6 lp k7
      have hX7 := k7 _ _ hX6 lp
      refine ⟨by show 2 ≤ sizeLine; decide, fun t ht => ?_⟩
      obtain ⟨d8, ra8, ro8⟩ := push H7 rs (.num v) t xs d7 ra7 ro ⟨trivial, ⟨v0, v1⟩, fun g e => (by cases e), fun _ o a b e => by cases e⟩ hX7 ht
      have hX8 : upd H7 t (.tup (Part.num v).vals) l = some (.lst xs) := by rw [upd_ne (ne_of_none hX7 ht)]; exact hX7
      exact ⟨l, _, _, rfl, rfl, hX8, by omega, _, _, _, _, _, _, rfl, d8, ra8, ro8, by rw [List.length_append, List.length_singleton]; omega⟩
    · refine iteN (dF (by intro e; injection e with e; exact hc e)) ?_
      refine ⟨_, rfl, .inl ⟨rfl, _, SqL.of hX6⟩, _, rfl, _, rfl, _, rfl, by show 3 ≤ sizeLine; decide, fun t ht => ?_⟩
      have et : (HO.tup [V.str o.s, V.int (((xs.length : Nat) : Int) - 1 - y), V.int (b : Nat)]) = HO.tup (Part.op o a b).vals := by rw [ea]; rfl
      obtain ⟨d8, ra8, ro8⟩ := push H6 rs (.op o a b) t xs d6 ra6 ro ⟨⟨by omega, by omega⟩, trivial, fun g e => (by cases e), fun hp o' a' b' e => (by cases e; exact hpl hp)⟩ hX6 ht
      have hX8 : upd H6 t (.tup (Part.op o a b).vals) l = some (.lst xs) := by rw [upd_ne (ne_of_none hX6 ht)]; exact hX6
      rw [← et] at d8 ra8 hX8
      exact ⟨l, _, _, rfl, rfl, hX8, by omega, _, _, _, _, _, _, rfl, d8, ra8, ro8, by rw [List.length_append, List.length_singleton]; omega⟩
  rintro σ' H4 ⟨v7, v8, v9, v10, v11, rs, rfl, d4, ra4, ro4, hlen4⟩
  rw [Int.toNat_natCast] at hlen4
  exact ⟨_, rfl, k H4 l rs hl d4 ra4 ro4 hlen4⟩
end
end My

/-! LH -/
namespace My
open PySem L2
local macro_rules | `(tactic| walk_at "side") => `(tactic| first | with_reducible rfl | assumption | rfl | decide | omega | exact cpow1 (by omega) (by omega) | exact cdiv (by omega) (by omega) | exact two_pos _ | exact SqL.of (by assumption) | exact SqT.of (by assumption) | exact TyX.base (TyOf.int _) | exact TyX.base (TyOf.bl _) | exact TyX.base TyOf.non | exact scal_opt _ _ | exact k_ii | exact k_bi | exact k_ni | exact k_ib | exact k_bb | exact TyX.base (TyOf.lst (by assumption)) | exact k_ll | exact k_lt)
local macro_rules | `(tactic| walk_at "p") => `(tactic| repeat (first | refine And.intro (by walk_at "side") ?_ | apply Exists.intro | refine iteN (by assumption) ?_ | refine iteP (by assumption) ?_ | refine iteN (by decide) ?_ | refine iteP (by decide) ?_))

section
variable {P : Program} {w : World} {K : PySem.W.Frag} {mg : Str → Option Value} {base : Heap}
/-- rows that grow at l -/
structure EdS (H0 H : Hp) (p q l : Addr) (n u : Nat) (rs : List Part) (xs : List V) : Prop where
  dr : Dr H p q
  at_ : LAt H l rs
  li : H l = some (.lst xs)
  len : xs.length = rs.length
  rows : Rows n u false rs
  keep : ∀ b o, H0 b = some o → b ≠ p → b ≠ l → H b = some o
theorem EdS.push {H0 H : Hp} {p q l t : Addr} {n u : Nat} {rs : List Part} {xs vs : List V} (s : EdS H0 H p q l n u rs xs) (lp : l ≠ p) (lq : l ≠ q) (r : Part) (ev : vs = r.vals) (rk : RowOk n u false rs.length r) (ht : H t = none) :
    upd H t (.tup vs) l = some (.lst xs) ∧ EdS H0 (upd (upd H t (.tup vs)) l (.lst (xs ++ [.ref t]))) p q l n u (rs ++ [r]) (xs ++ [.ref t]) := by
  subst ev
  have s1 := same_new (o := .tup r.vals) ht
  have tl : t ≠ l := (ne_of_none s.li ht).symm
  refine ⟨s1 _ _ s.li, (s.dr.news s1).upd lp lq, (s.at_.news s1).push (s1 _ _ s.li) (fun b ys e => by rw [upd_ne (ne_of e (s1 _ _ s.li) (by intro z; cases z))]; exact e) upd_same (by rw [upd_ne tl]; exact upd_same), upd_same, by simp [s.len], s.rows.snoc rk, fun b o e h1 h2 => ?_⟩
  rw [upd_ne h2]; exact s1 _ _ (s.keep b o e h1 h2)
def opsL : List Op := [.add, .xor, .sub, .and, .same, .or, .less]
theorem opsL_v : opsL.map (fun o => V.str o.s) = opList := rfl
end
end My

/-! LI -/
namespace My
open PySem L2
local macro_rules | `(tactic| walk_at "side") => `(tactic| first | with_reducible rfl | assumption | rfl | decide | omega | exact cpow1 (by omega) (by omega) | exact cdiv (by omega) (by omega) | exact two_pos _ | exact SqL.of (by assumption) | exact SqT.of (by assumption) | exact TyX.base (TyOf.int _) | exact TyX.base (TyOf.bl _) | exact TyX.base TyOf.non | exact scal_opt _ _ | exact k_ii | exact k_bi | exact k_ni | exact k_ib | exact k_bb | exact TyX.base (TyOf.lst (by assumption)) | exact k_ll | exact k_lt)
local macro_rules | `(tactic| walk_at "p") => `(tactic| repeat (first | refine And.intro (by walk_at "side") ?_ | apply Exists.intro | refine iteN (by assumption) ?_ | refine iteP (by assumption) ?_ | refine iteN (by decide) ?_ | refine iteP (by decide) ?_))

section
variable {P : Program} {w : World} {K : PySem.W.Frag} {mg : Str → Option Value} {base : Heap}
def intL (ws : List Int) : List V := ws.map V.int
theorem intL_len (ws : List Int) : (intL ws).length = ws.length := by unfold intL; simp
theorem intL_at {ws : List Int} {i : Nat} (h : i < ws.length) : atI (intL ws) (i : Nat) = some (.int (ws.getD i 0)) := by
  refine at_of (j := i) rfl ?_
  unfold intL
  rw [List.getElem?_map, List.getD_eq_getElem?_getD, List.getElem?_eq_getElem h]; rfl
def sp_law_row_words (T : Txt K mg) : Sp := fun vs H Q _ => ∃ (l q : Addr) (n u : Nat) (rs : List Part) (ws : List Int), vs = [.ref l, .ref q, .int n] ∧ LAt H l rs ∧ H q = some (.lst (intL ws)) ∧ Ok n rs ∧ (∀ (k : Nat) (g : Int), rs[k]? = some (Part.get g) → g < ws.length) ∧ n ≤ 12 ∧ rs.length < 100 ∧
  ∀ (H' : Hp) (t : Addr), Same H H' → H t = none → H' t = some (.lst (intL (evs n (envOf ws) rs))) → Q (.ref t) H'
theorem sp_law_row_words_len {T : Txt K mg} {vs H Q E} (h : sp_law_row_words T vs H Q E) : vs.length = 3 := by obtain ⟨_, _, _, _, _, _, rfl, _⟩ := h; rfl
theorem ok_law_row_words (T : Txt K mg) : FnOk P w K mg base CX0 2 T.f_law_row_words T.fd_law_row_words ["_law_rows", "_law_words", "_law_width"] (sp_law_row_words T) := by
  have G_law_op := ok_law_op (P := P) (w := w) (base := base) T
  refine T.F_law_row_words.ok sc_law_row_words (fun vs H Q E h => sp_law_row_words_len h) (fun cdv A outer s H vs Q E hr h => ?_)
  obtain ⟨l, q, n, u, rs, ws, rfl, hl, hq, ok, hg, hn, h100, k⟩ := h
  refine ⟨_, (pss_cons (ps_set (i := 3) sc_law_row_words.nd rfl (Or.inl rfl) (pe_lst pa_nil))
       (pss_cons (ps_for PassesOwn.never rfl (pi_list (pv 0)) (pg_name (i := 4) sc_law_row_words.nd rfl (Or.inl rfl))
        (pss_one (ps_if (pt_cmpR op_eq (pe_ix ix_tup (pv 4) pe_int (fun _ _ => rfl)) pe_str (nomark _))
        (pss_one (ps_expr (pe_bm PySem.F.plainAttrs_list PySem.F.slot_list_append PySem.F.type_list_append mt_append (pv 3) (pa_cons (pe_ix ix_list (pv 1) (pe_ix ix_tup (pv 4) pe_int (fun _ _ => rfl)) (fun _ _ => rfl)) pa_nil))))
        (pss_one (ps_if (pt_cmpR op_eq (pe_ix ix_tup (pv 4) pe_int (fun _ _ => rfl)) pe_str (nomark _))
        (pss_one (ps_expr (pe_bm PySem.F.plainAttrs_list PySem.F.slot_list_append PySem.F.type_list_append mt_append (pv 3) (pa_cons (pe_op op_mod (pe_callTy call_intI (by rfl) T.n_int (by decide +kernel) (pa_cons (pe_ix ix_tup (pv 4) pe_int (fun _ _ => rfl)) pa_nil)) (pe_op op_shl pe_int (pv 2))) pa_nil))))
        (pss_one (ps_expr (pe_bm PySem.F.plainAttrs_list PySem.F.slot_list_append PySem.F.type_list_append mt_append (pv 3) (pa_cons (pe_call G_law_op hr rfl T.g_law_op T.F_law_op.kp T.b_law_op .nil pass0 (pa_cons (pe_ix ix_tup (pv 4) pe_int (fun _ _ => rfl)) (pa_cons (pe_ix ix_list (pv 3) (pe_ix ix_tup (pv 4) pe_int (fun _ _ => rfl)) (fun _ _ => rfl)) (pa_cons (pe_ix ix_list (pv 3) (pe_ix ix_tup (pv 4) pe_int (fun _ _ => rfl)) (fun _ _ => rfl)) (pa_cons (pv 2) pa_nil))))) pa_nil)))))))))
       (pss_one (ps_ret (pv 3))))), ?_⟩
  have sz : sizeLine = 16777216 := sizeLine_eq
  obtain ⟨xs, hX, ex, hit⟩ := hl.item
  refine ⟨Nat.zero_le _, fun D hD => ?_⟩
  have s1 := same_new (o := .lst []) hD
  refine ⟨_, rfl, l, rfl, ⟨_, SqL.of (s1 _ _ hX)⟩, ?_⟩
  refine for_list (K := K) (a := l) (xs := xs) (fun j σ' H2 => ∃ v4 : Option V, σ' = [some (.ref l), some (.ref q), some (.int (n : Nat)), some (.ref D), v4] ∧ Same H H2 ∧ H2 D = some (.lst (intL (evs n (envOf ws) (rs.take j))))) ⟨none, rfl, s1, upd_same⟩ ?_ ?_ ?_
  · rintro j σ' H2 _ ⟨_, _, s2, _⟩
    exact SqL.of (s2 _ _ hX)
  · rintro j x σ' H2 hj ⟨v4, rfl, s2, h2⟩
    have hjl := (List.getElem?_eq_some_iff.mp hj).1
    obtain ⟨p, hp⟩ : ∃ p, rs[j]? = some p := ⟨_, List.getElem?_eq_getElem (by omega)⟩
    obtain ⟨t, ht, hT⟩ := hit j p hp
    rw [hj] at ht
    cases ht
    have hT2 := s2 _ _ hT
    have el : (evs n (envOf ws) (rs.take j)).length = j := by rw [evs_len, List.length_take]; omega
    have es : evs n (envOf ws) (rs.take (j + 1)) = evs n (envOf ws) (rs.take j) ++ [evV n (envOf ws) (evs n (envOf ws) (rs.take j)) p] := by rw [take_snoc hp, evs_snoc]
    have fin : ∀ v : Int, v = evV n (envOf ws) (evs n (envOf ws) (rs.take j)) p → Same H (upd H2 D (.lst (intL (evs n (envOf ws) (rs.take j)) ++ [.int v]))) ∧ upd H2 D (.lst (intL (evs n (envOf ws) (rs.take j)) ++ [.int v])) D = some (.lst (intL (evs n (envOf ws) (rs.take (j + 1))))) := fun v e => by
      subst e
      refine ⟨fun b o e => ?_, ?_⟩
      · rw [upd_ne (ne_of_none e hD)]; exact s2 _ _ e
      · rw [upd_same, es]; unfold intL; rw [List.map_append]; rfl
    have hz : (intL (evs n (envOf ws) (rs.take j))).length < sizeLine := by rw [intL_len, el]; omega
    refine ⟨_, rfl, t, _, 0, _, rfl, rfl, SqT.of hT2, tag0 p, rfl, _, rfl, ?_⟩
    cases p with
    | get g =>
      have g0 := (ok.get _ _ hp).1
      have g1 := hg _ _ hp
      obtain ⟨i, rfl⟩ := Int.eq_ofNat_of_zero_le g0
      refine iteP (dT rfl) ?_
      refine ⟨_, rfl, .inl ⟨rfl, _, SqL.of h2⟩, _, rfl, _, rfl, t, _, 1, _, rfl, rfl, SqT.of hT2, rfl, q, _, _, _, rfl, rfl, SqL.of (s2 _ _ hq), intL_at (by omega), ?_⟩
      exact ⟨D, _, _, rfl, rfl, h2, hz, _, rfl, fin _ rfl⟩
    | num v =>
      have hv := ok.num _ _ hp
      refine iteN num_get_f ?_
      refine ⟨_, rfl, t, _, 0, _, rfl, rfl, SqT.of hT2, rfl, rfl, _, rfl, iteP (dT rfl) ?_⟩
      refine ⟨_, rfl, .inl ⟨rfl, _, SqL.of h2⟩, _, rfl, t, _, 1, _, rfl, rfl, SqT.of hT2, rfl, v, rfl, _, rfl, _, _, rfl, rfl, cpow1 (by omega) (by omega), _, _, rfl, rfl, two_pos _, ?_⟩
      have ev : v % (1 * 2 ^ (n : Int).toNat) = v := by rw [Int.one_mul, Int.toNat_natCast]; exact Int.emod_eq_of_lt hv.1 hv.2
      exact ⟨D, _, _, rfl, rfl, h2, hz, _, rfl, fin _ ev⟩
    | op o a b =>
      have ab := ok.wf _ _ _ _ hp
      refine iteN (op_get_f o) ?_
      refine ⟨_, rfl, t, _, 0, _, rfl, rfl, SqT.of hT2, rfl, rfl, _, rfl, iteN (op_num_f o) ?_⟩
      refine ⟨_, rfl, .inl ⟨rfl, _, SqL.of h2⟩, _, rfl, t, _, 0, _, rfl, rfl, SqT.of hT2, rfl, _, rfl, _, rfl, t, _, 1, _, rfl, rfl, SqT.of hT2, rfl, D, _, _, _, rfl, rfl, SqL.of h2, intL_at (by omega), _, rfl, _, rfl, t, _, 2, _, rfl, rfl, SqT.of hT2, rfl, D, _, _, _, rfl, rfl, SqL.of h2, intL_at (by omega), _, rfl, o, _, _, n, rfl, hn, ?_⟩
      exact ⟨D, _, _, rfl, rfl, h2, hz, _, rfl, fin _ rfl⟩
  rintro σ' H2 ⟨v4, rfl, s2, h2⟩
  rw [ex, List.take_length] at h2
  exact ⟨_, rfl, k H2 D s2 hD h2⟩
end
end My

/-! M3 -/
/-! chosen, carry, lifted: the mathematics -/
namespace My
open PySem L2
/-- a part got in a pool: its number and the parts behind it -/
structure Got (n : Nat) (env : Int → Int) (ps : List Part) (r : Nat × List Part) (v : Int) (m : Nat) : Prop where
  ok : Ok n r.2
  pre : ps <+: r.2
  lt : r.1 < r.2.length
  len : r.2.length ≤ ps.length + m
  ev : evAt n env r.2 r.1 = v
theorem got_apply {n : Nat} (h1 : 1 ≤ n) {env : Int → Int} (he : EnvG n env) {ps : List Part} (h : Ok n ps) {o : Op} {a b : Nat} (ha : a < ps.length) (hb : b < ps.length) :
    Got n env ps (mApply n ps o a b) (opI n o (evAt n env ps a) (evAt n env ps b)) 1 :=
  ⟨ok_mApply h1 h ha hb, mApply_pre n ps o a b, mApply_lt ha hb, mApply_len n ps o a b, mApply_ev h1 he h ha hb⟩
theorem got_mk {n : Nat} {env : Int → Int} {ps : List Part} (h : Ok n ps) {p : Part} (ha : Ahead ps.length p) (hp : PartOk n p) (v : Int) (hv : ∀ o a b, p ≠ .op o a b) (e : v = match p with | .num v => v | .get i => env i | .op _ _ _ => 0) : Got n env ps (mk ps p) v 1 := by
  have ok := ok_mk h ha hp
  refine ⟨ok, mk_pre _ _, mk_lt _ _, mk_len _ _, ?_⟩
  rw [mk_ev ok.wf, e]
  cases p with
  | num v => rfl
  | get i => rfl
  | op o a b => exact absurd rfl (hv o a b)
theorem got_num {n : Nat} {env : Int → Int} {ps : List Part} (h : Ok n ps) {v : Int} (h0 : 0 ≤ v) (hv : v < 2 ^ n) : Got n env ps (mk ps (.num v)) v 1 :=
  got_mk (p := .num v) h trivial ⟨h0, hv⟩ v (fun _ _ _ z => by cases z) rfl
theorem Got.at {n : Nat} {env : Int → Int} {ps : List Part} {r : Nat × List Part} {v : Int} {m : Nat} (h : Got n env ps r v m) {k : Nat} (hk : k < ps.length) : k < r.2.length ∧ evAt n env r.2 k = evAt n env ps k :=
  ⟨Nat.lt_of_lt_of_le hk h.pre.length_le, evAt_pre h.pre hk⟩
def mChosen (n : Nat) (ps : List Part) (t x y : Nat) : Nat × List Part :=
  mApply n (mApply n (mApply n (mk (mApply n (mk (mApply n ps .xor x y).2 (.num 0)).2 .same t (mk (mApply n ps .xor x y).2 (.num 0)).1).2 (.num 1)).2 .sub (mApply n (mk (mApply n ps .xor x y).2 (.num 0)).2 .same t (mk (mApply n ps .xor x y).2 (.num 0)).1).1 (mk (mApply n (mk (mApply n ps .xor x y).2 (.num 0)).2 .same t (mk (mApply n ps .xor x y).2 (.num 0)).1).2 (.num 1)).1).2 .and (mApply n ps .xor x y).1 (mApply n (mk (mApply n (mk (mApply n ps .xor x y).2 (.num 0)).2 .same t (mk (mApply n ps .xor x y).2 (.num 0)).1).2 (.num 1)).2 .sub (mApply n (mk (mApply n ps .xor x y).2 (.num 0)).2 .same t (mk (mApply n ps .xor x y).2 (.num 0)).1).1 (mk (mApply n (mk (mApply n ps .xor x y).2 (.num 0)).2 .same t (mk (mApply n ps .xor x y).2 (.num 0)).1).2 (.num 1)).1).1).2 .xor y (mApply n (mApply n (mk (mApply n (mk (mApply n ps .xor x y).2 (.num 0)).2 .same t (mk (mApply n ps .xor x y).2 (.num 0)).1).2 (.num 1)).2 .sub (mApply n (mk (mApply n ps .xor x y).2 (.num 0)).2 .same t (mk (mApply n ps .xor x y).2 (.num 0)).1).1 (mk (mApply n (mk (mApply n ps .xor x y).2 (.num 0)).2 .same t (mk (mApply n ps .xor x y).2 (.num 0)).1).2 (.num 1)).1).2 .and (mApply n ps .xor x y).1 (mApply n (mk (mApply n (mk (mApply n ps .xor x y).2 (.num 0)).2 .same t (mk (mApply n ps .xor x y).2 (.num 0)).1).2 (.num 1)).2 .sub (mApply n (mk (mApply n ps .xor x y).2 (.num 0)).2 .same t (mk (mApply n ps .xor x y).2 (.num 0)).1).1 (mk (mApply n (mk (mApply n ps .xor x y).2 (.num 0)).2 .same t (mk (mApply n ps .xor x y).2 (.num 0)).1).2 (.num 1)).1).1).1
theorem chosen_word {n : Nat} (h1 : 1 ≤ n) {t x y : Int} (ht : Gd n t) (hx : Gd n x) (hy : Gd n y) :
    opI n .xor y (opI n .and (opI n .xor x y) (opI n .sub (opI n .same t 0) 1)) = if t ≠ 0 then x else y := by
  have p1 := one_lt h1
  obtain ⟨a, rfl, ha⟩ := hx.nat
  obtain ⟨b, rfl, hb⟩ := hy.nat
  by_cases h : t = 0
  · rw [if_neg (fun z => z h)]
    have e1 : opI n .sub (opI n .same t 0) 1 = 0 := by
      show ((if t = 0 then (1 : Int) else 0) - 1) % 2 ^ n = 0
      rw [if_pos h]; rfl
    rw [e1]
    have gx : (0 : Int) ≤ opI n .xor (a : Int) (b : Int) := by
      show 0 ≤ Builtin.bitXor _ _
      rw [xor_nat]; omega
    have e2 : opI n .and (opI n .xor (a : Int) (b : Int)) 0 = 0 := (and_zero' gx).1
    rw [e2]
    exact (xor_zero' (by omega)).1
  · rw [if_pos h]
    have e1 : opI n .sub (opI n .same t 0) 1 = 2 ^ n - 1 := by
      show ((if t = 0 then (1 : Int) else 0) - 1) % 2 ^ n = _
      rw [if_neg h, Int.zero_sub]
      have : (-1 : Int) % 2 ^ n = (-1 + 2 ^ n) % 2 ^ n := (Int.add_emod_right _ _).symm
      rw [this, Int.emod_eq_of_lt (by omega) (by omega)]; omega
    rw [e1]
    have gx : Gd n (opI n .xor (a : Int) (b : Int)) := by
      have := opI_range h1 (o := .xor) (x := (a : Int)) (y := (b : Int)) hx hy
      exact this
    have e2 : opI n .and (opI n .xor (a : Int) (b : Int)) (2 ^ n - 1) = opI n .xor (a : Int) (b : Int) := and_most gx
    rw [e2]
    show Builtin.bitXor (b : Int) (Builtin.bitXor (a : Int) (b : Int)) = a
    rw [xor_nat, xor_nat]
    congr 1
    rw [Nat.xor_comm a b, ← Nat.xor_assoc, Nat.xor_self, Nat.zero_xor]
theorem got_chosen {n : Nat} (h1 : 1 ≤ n) {env : Int → Int} (he : EnvG n env) {ps : List Part} (h : Ok n ps) {t x y : Nat} (ht : t < ps.length) (hx : x < ps.length) (hy : y < ps.length) :
    Got n env ps (mChosen n ps t x y) (if evAt n env ps t ≠ 0 then evAt n env ps x else evAt n env ps y) 7 := by
  have p1 := one_lt h1
  have A := got_apply h1 he h (o := .xor) hx hy
  have Z := got_num (env := env) A.ok (v := 0) (Int.le_refl _) (by omega)
  have tZ := Z.at (A.at ht).1
  have I := got_apply h1 he Z.ok (o := .same) tZ.1 Z.lt
  have N := got_num (env := env) I.ok (v := 1) (by omega) p1
  have iN := N.at I.lt
  have M := got_apply h1 he N.ok (o := .sub) iN.1 N.lt
  have aM := M.at (N.at (I.at (Z.at A.lt).1).1).1
  have B := got_apply h1 he M.ok (o := .and) aM.1 M.lt
  have yB := B.at (M.at (N.at (I.at (Z.at (A.at hy).1).1).1).1).1
  have C := got_apply h1 he B.ok (o := .xor) yB.1 B.lt
  refine ⟨C.ok, A.pre.trans (Z.pre.trans (I.pre.trans (N.pre.trans (M.pre.trans (B.pre.trans C.pre))))), C.lt, ?_, ?_⟩
  · have := A.len; have := Z.len; have := I.len; have := N.len; have := M.len; have := B.len; have := C.len
    unfold mChosen; omega
  · have e := C.ev
    rw [← chosen_word h1 (evAt_gd h1 he h t) (evAt_gd h1 he h x) (evAt_gd h1 he h y)]
    refine Eq.trans e ?_
    rw [B.ev, M.ev, N.ev, yB.2, aM.2, iN.2, I.ev, tZ.2, Z.ev]
    rw [(M.at (N.at (I.at (Z.at (A.at hy).1).1).1).1).2, (N.at (I.at (Z.at (A.at hy).1).1).1).2, (I.at (Z.at (A.at hy).1).1).2, (Z.at (A.at hy).1).2, (A.at hy).2]
    rw [(N.at (I.at (Z.at A.lt).1).1).2, (I.at (Z.at A.lt).1).2, (Z.at A.lt).2, A.ev, (A.at ht).2]
def mCar (n : Nat) (ps : List Part) (x y : Nat) : Nat × List Part := mApply n (mApply n ps .add x y).2 .less (mApply n ps .add x y).1 x
theorem got_car {n : Nat} (h1 : 1 ≤ n) {env : Int → Int} (he : EnvG n env) {ps : List Part} (h : Ok n ps) {x y : Nat} (hx : x < ps.length) (hy : y < ps.length) :
    Got n env ps (mCar n ps x y) (if 2 ^ n ≤ evAt n env ps x + evAt n env ps y then 1 else 0) 2 := by
  have A := got_apply h1 he h (o := .add) hx hy
  have xA := A.at hx
  have B := got_apply h1 he A.ok (o := .less) A.lt xA.1
  refine ⟨B.ok, A.pre.trans B.pre, B.lt, ?_, ?_⟩
  · have := A.len; have := B.len
    unfold mCar; omega
  · refine Eq.trans B.ev ?_
    rw [A.ev, xA.2]
    have gx := evAt_gd h1 he h x
    have gy := evAt_gd h1 he h y
    obtain ⟨a, ea, ha⟩ := gx.nat
    obtain ⟨b, eb, hb⟩ := gy.nat
    rw [ea, eb]
    show (if ((a : Int) + b) % 2 ^ n < a then (1 : Int) else 0) = _
    have e2 : ((2 ^ n : Nat) : Int) = 2 ^ n := Int.natCast_pow 2 n
    by_cases hc : 2 ^ n ≤ a + b
    · have : ((a : Int) + b) % 2 ^ n = a + b - 2 ^ n := by
        rw [← Int.sub_emod_right]
        exact Int.emod_eq_of_lt (by omega) (by omega)
      rw [this, if_pos (by omega), if_pos (by omega)]
    · have : ((a : Int) + b) % 2 ^ n = a + b := Int.emod_eq_of_lt (by omega) (by omega)
      rw [this, if_neg (by omega), if_neg (by omega)]
def mLift (W w : Nat) (ps : List Part) (o : Op) (a b : Nat) : Nat × List Part :=
  if o = .add ∨ o = .sub then mApply W (mk (mApply W ps o a b).2 (.num (2 ^ w - 1))).2 .and (mApply W ps o a b).1 (mk (mApply W ps o a b).2 (.num (2 ^ w - 1))).1 else mApply W ps o a b
theorem pow_le' {w W : Nat} (h : w ≤ W) : (2 : Int) ^ w ≤ 2 ^ W := by
  have := Nat.pow_le_pow_right (n := 2) (by decide) h
  have e : ((2 ^ w : Nat) : Int) = 2 ^ w := Int.natCast_pow 2 w
  have e2 : ((2 ^ W : Nat) : Int) = 2 ^ W := Int.natCast_pow 2 W
  omega
theorem lift_mod {w W : Nat} (h : w ≤ W) (z : Int) : Builtin.bitAnd (z % 2 ^ W) (2 ^ w - 1) = z % 2 ^ w := by
  have := mask_eq (z % 2 ^ W) w
  rw [Int.one_mul, Int.toNat_natCast] at this
  rw [this]
  refine Int.emod_emod_of_dvd _ ?_
  obtain ⟨d, rfl⟩ : ∃ d, W = w + d := ⟨W - w, by omega⟩
  exact ⟨2 ^ d, Int.pow_add 2 w d⟩
theorem got_lift {W w : Nat} (w1 : 1 ≤ w) (hW : w ≤ W) {env : Int → Int} (he : EnvG W env) {ps : List Part} (h : Ok W ps) {o : Op} {a b : Nat} (ha : a < ps.length) (hb : b < ps.length) (ga : Gd w (evAt W env ps a)) (gb : Gd w (evAt W env ps b)) :
    Got W env ps (mLift W w ps o a b) (opI w o (evAt W env ps a) (evAt W env ps b)) 3 := by
  have W1 : 1 ≤ W := by omega
  have A := got_apply W1 he h (o := o) ha hb
  have hp := pow_pos' w
  have hl := pow_le' hW
  unfold mLift
  split
  · rename_i ho
    have N := got_num (env := env) A.ok (v := 2 ^ w - 1) (by omega) (by omega)
    have aN := N.at A.lt
    have B := got_apply W1 he N.ok (o := .and) aN.1 N.lt
    refine ⟨B.ok, A.pre.trans (N.pre.trans B.pre), B.lt, ?_, ?_⟩
    · have := A.len; have := N.len; have := B.len; omega
    · refine Eq.trans B.ev ?_
      rw [N.ev, aN.2, A.ev]
      rcases ho with rfl | rfl
      · exact lift_mod hW _
      · exact lift_mod hW _
  · rename_i ho
    refine ⟨A.ok, A.pre, A.lt, Nat.le_trans A.len (by omega), ?_⟩
    rw [A.ev]
    cases o with
    | add => exact absurd (.inl rfl) ho
    | sub => exact absurd (.inr rfl) ho
    | _ => rfl
def lPart (W w : Nat) (ps : List Part) (r : Part) (pl : List Nat) : Nat × List Part := match r with
  | .op o a b => mLift W w ps o (pl.getD a 0) (pl.getD b 0)
  | p => mk ps p
def lStep (W w : Nat) (st : List Part × List Nat) (r : Part) : List Part × List Nat := ((lPart W w st.1 r st.2).2, st.2 ++ [(lPart W w st.1 r st.2).1])
def lAll (W w : Nat) (rs : List Part) : List Part × List Nat := rs.foldl (lStep W w) ([], [])
theorem lAll_snoc (W w : Nat) (rs : List Part) (r : Part) : lAll W w (rs ++ [r]) = lStep W w (lAll W w rs) r := by unfold lAll; rw [List.foldl_append]; rfl
/-- what holds behind lifted rows -/
structure LInv (W w : Nat) (env : Int → Int) (rs : List Part) (j : Nat) (st : List Part × List Nat) : Prop where
  ok : Ok W st.1
  len : st.2.length = j
  plen : st.1.length ≤ 3 * j
  at' : ∀ k, k < j → st.2.getD k 0 < st.1.length ∧ evAt W env st.1 (st.2.getD k 0) = evAt w env rs k
theorem lift_step {W w : Nat} (w1 : 1 ≤ w) (hW : w ≤ W) {env : Int → Int} (he : EnvG w env) {rs : List Part} (hr : Ok w rs) {j : Nat} {r : Part} (e : rs[j]? = some r) {st : List Part × List Nat} (I : LInv W w env rs j st) :
    Got W env st.1 (lPart W w st.1 r st.2) (evAt w env rs j) 3 := by
  have heW : EnvG W env := fun g => ⟨(he g).1, Int.lt_of_lt_of_le (he g).2 (pow_le' hW)⟩
  have hj := evAt_eq (w := w) (env := env) hr.wf e
  cases r with
  | num v =>
    have hv := hr.num _ _ e
    have G := got_num (env := env) I.ok (v := v) hv.1 (Int.lt_of_lt_of_le hv.2 (pow_le' hW))
    rw [hj]
    exact ⟨G.ok, G.pre, G.lt, Nat.le_trans G.len (by omega), G.ev⟩
  | get i =>
    have hi := hr.get _ _ e
    have G := got_mk (env := env) I.ok (p := .get i) trivial hi (env i) (fun _ _ _ z => by cases z) rfl
    rw [hj]
    exact ⟨G.ok, G.pre, G.lt, Nat.le_trans G.len (by omega), G.ev⟩
  | op o a b =>
    obtain ⟨ha, hb⟩ := hr.wf _ _ _ _ e
    obtain ⟨a1, a2⟩ := I.at' a ha
    obtain ⟨b1, b2⟩ := I.at' b hb
    have G := got_lift (o := o) w1 hW heW I.ok a1 b1 (by rw [a2]; exact evAt_gd w1 he hr a) (by rw [b2]; exact evAt_gd w1 he hr b)
    rw [a2, b2] at G
    rw [hj]
    exact G
theorem lInv_step {W w : Nat} (w1 : 1 ≤ w) (hW : w ≤ W) {env : Int → Int} (he : EnvG w env) {rs : List Part} (hr : Ok w rs) {j : Nat} {r : Part} (e : rs[j]? = some r) {st : List Part × List Nat} (I : LInv W w env rs j st) : LInv W w env rs (j + 1) (lStep W w st r) := by
  have G := lift_step w1 hW he hr e I
  refine ⟨G.ok, by unfold lStep; simp [I.len], Nat.le_trans G.len (by have := I.plen; omega), fun k hk => ?_⟩
  unfold lStep
  dsimp only
  by_cases h : k < j
  · have := I.at' k h
    rw [List.getD_eq_getElem?_getD, List.getElem?_append_left (by rw [I.len]; exact h), ← List.getD_eq_getElem?_getD]
    have g := G.at this.1
    exact ⟨g.1, by rw [g.2]; exact this.2⟩
  · have : k = j := by omega
    subst this
    rw [List.getD_eq_getElem?_getD, List.getElem?_append_right (by rw [I.len]; exact Nat.le_refl _), I.len, Nat.sub_self]
    exact ⟨G.lt, G.ev⟩
theorem lInv_all {W w : Nat} (w1 : 1 ≤ w) (hW : w ≤ W) {env : Int → Int} (he : EnvG w env) {rs : List Part} (hr : Ok w rs) : ∀ j, j ≤ rs.length → LInv W w env rs j (lAll W w (rs.take j))
  | 0, _ => ⟨ok_nil W, rfl, Nat.le_refl _, fun k h => by omega⟩
  | j + 1, h => by
    obtain ⟨r, e⟩ : ∃ r, rs[j]? = some r := ⟨_, List.getElem?_eq_getElem (by omega)⟩
    have I := lInv_all w1 hW he hr j (by omega)
    rw [take_snoc e, lAll_snoc]
    exact lInv_step w1 hW he hr e I
end My

/-! PA -/
namespace My
open PySem L2
local macro_rules | `(tactic| walk_at "side") => `(tactic| first | with_reducible rfl | assumption | rfl | decide | omega | exact cpow1 (by omega) (by omega) | exact cdiv (by omega) (by omega) | exact two_pos _ | exact SqL.of (by assumption) | exact SqT.of (by assumption) | exact TyX.base (TyOf.int _) | exact TyX.base (TyOf.bl _) | exact TyX.base TyOf.non | exact scal_opt _ _ | exact k_ii | exact k_bi | exact k_ni | exact k_ib | exact k_bb | exact TyX.base (TyOf.lst (by assumption)) | exact k_ll | exact k_lt)
local macro_rules | `(tactic| walk_at "p") => `(tactic| repeat (first | refine And.intro (by walk_at "side") ?_ | apply Exists.intro | refine iteN (by assumption) ?_ | refine iteP (by assumption) ?_ | refine iteN (by decide) ?_ | refine iteP (by decide) ?_))

theorem neI {a b : Int} (h : a = b) : ¬ (!decide (V.int a = V.int b)) = true := by rw [h]; simp
/-- a pool stands where only a list changes that is not its own -/
theorem PoolAt.but {C : Addr} {H H' : Hp} {a l d b : Addr} {n : Nat} {ps : List Part} {xs : List V} (h : PoolAt C H a l d n ps) (hb : H b = some (.lst xs)) (hl : l ≠ b) (s : ∀ x o, H x = some o → x ≠ b → H' x = some o) : PoolAt C H' a l d n ps := by
  obtain ⟨dx, ho⟩ := id h.ob
  exact h.keep (S := fun x => x = b) (fun x o e hx => s x o e hx) (ne_of ho hb (by intro z; cases z)) hl (ne_of h.dic hb (by intro z; cases z)) fun t xs e => ne_of e hb (by intro z; cases z)
theorem LAt.but {H H' : Hp} {l b : Addr} {ps : List Part} {xs : List V} (h : LAt H l ps) (hb : H b = some (.lst xs)) (hl : l ≠ b) (s : ∀ x o, H x = some o → x ≠ b → H' x = some o) : LAt H' l ps :=
  h.keep (S := fun x => x = b) (fun x o e hx => s x o e hx) hl fun t xs e => ne_of e hb (by intro z; cases z)
theorem PoolAt.but2 {C : Addr} {H H' : Hp} {a l d b c : Addr} {n : Nat} {ps : List Part} {xs : List V} {kvs : List (List Key × V)} (h : PoolAt C H a l d n ps) (hb : H b = some (.lst xs)) (hc : H c = some (.dT kvs)) (hl : l ≠ b) (hd : d ≠ c) (s : ∀ x o, H x = some o → x ≠ b → x ≠ c → H' x = some o) : PoolAt C H' a l d n ps := by
  obtain ⟨dx, ho⟩ := id h.ob
  obtain ⟨ts, hL, _⟩ := id h.lst
  exact h.keep (S := fun x => x = b ∨ x = c) (fun x o e hx => s x o e (fun z => hx (.inl z)) fun z => hx (.inr z))
    (by rintro (z | z); exact ne_of ho hb (by intro z; cases z) z; exact ne_of ho hc (by intro z; cases z) z)
    (by rintro (z | z); exact hl z; exact ne_of hL hc (by intro z; cases z) z)
    (by rintro (z | z); exact ne_of h.dic hb (by intro z; cases z) z; exact hd z)
    (fun t xs e => by rintro (z | z); exact ne_of e hb (by intro z; cases z) z; exact ne_of e hc (by intro z; cases z) z)
theorem LAt.but2 {H H' : Hp} {l b c : Addr} {ps : List Part} {xs : List V} {kvs : List (List Key × V)} (h : LAt H l ps) (hb : H b = some (.lst xs)) (hc : H c = some (.dT kvs)) (hl : l ≠ b) (s : ∀ x o, H x = some o → x ≠ b → x ≠ c → H' x = some o) : LAt H' l ps := by
  obtain ⟨ts, hL, _⟩ := id h
  exact h.keep (S := fun x => x = b ∨ x = c) (fun x o e hx => s x o e (fun z => hx (.inl z)) fun z => hx (.inr z))
    (by rintro (z | z); exact hl z; exact ne_of hL hc (by intro z; cases z) z)
    (fun t xs e => by rintro (z | z); exact ne_of e hb (by intro z; cases z) z; exact ne_of e hc (by intro z; cases z) z)
section
variable {P : Program} {w : World} {K : PySem.W.Frag} {mg : Str → Option Value} {base : Heap}
def sp_p_carry (T : Txt K mg) : Sp := fun vs H Q _ => ∃ (a l d : Addr) (n : Nat) (ps : List Part) (x y : Nat), vs = [.ref a, .int x, .int y] ∧ PoolAt T.C H a l d n ps ∧ ps.length ≤ 3990 ∧ n ≤ 12 ∧ x < ps.length ∧ y < ps.length ∧ Made T.C H a l d n (mCar n ps x y) Q
theorem sp_p_carry_len {T : Txt K mg} {vs H Q E} (h : sp_p_carry T vs H Q E) : vs.length = 3 := by obtain ⟨_, _, _, _, _, _, _, rfl, _⟩ := h; rfl
theorem ok_p_carry (T : Txt K mg) : FnOk P w K mg base CX0 5 T.f_p_carry T.fd_p_carry ["self", "one", "other"] (sp_p_carry T) := by
  have G_p_apply := ok_p_apply (P := P) (w := w) (base := base) T
  refine T.F_p_carry.ok sc_p_carry (fun vs H Q E h => sp_p_carry_len h) (fun cdv A outer s H vs Q E hr h => ?_)
  obtain ⟨a, l, d, n, ps, x, y, rfl, hp, hl, n12, hx, hy, k⟩ := h
  obtain ⟨dx, ho⟩ := id hp.ob
  refine ⟨_, (pss_one (ps_ret (pe_meth (pv 0) T.cl T.m_p_apply G_p_apply hr T.b_p_apply .nil passL (pa_cons pe_str (pa_cons (pe_meth (pv 0) T.cl T.m_p_apply G_p_apply hr T.b_p_apply .nil passL (pa_cons pe_str (pa_cons (pv 1) (pa_cons (pv 2) pa_nil)))) (pa_cons (pv 1) pa_nil)))))), ?_⟩
  have l1 := mApply_len n ps .add x y
  have x1 : x < (mApply n ps .add x y).2.length := Nat.lt_of_lt_of_le hx (mApply_pre n ps .add x y).length_le
  have l2 := mApply_len n (mApply n ps .add x y).2 .less (mApply n ps .add x y).1 x
  refine ⟨_, rfl, a, dx, _, rfl, ho, no_meth (by decide +kernel), _, rfl, a, dx, _, rfl, ho, no_meth (by decide +kernel), _, rfl, _, rfl, ?_⟩
  refine ⟨a, l, d, n, ps, .add, x, y, rfl, hp, by omega, n12, hx, hy, Made.x (fun H1 hp1 f1 => ?_) (by omega)⟩
  refine ⟨_, rfl, a, l, d, n, _, .less, (mApply n ps .add x y).1, x, rfl, hp1, by omega, n12, mApply_lt hx hy, x1, Made.x (fun H2 hp2 f2 => ?_) (by omega)⟩
  exact k H2 hp2 fun b o e h1 h2 => f2 _ _ (f1 _ _ e h1 h2) h1 h2
def sp_p_chosen (T : Txt K mg) : Sp := fun vs H Q _ => ∃ (a l d : Addr) (n : Nat) (ps : List Part) (t x y : Nat), vs = [.ref a, .int t, .int x, .int y] ∧ PoolAt T.C H a l d n ps ∧ ps.length ≤ 3990 ∧ 1 ≤ n ∧ n ≤ 12 ∧ t < ps.length ∧ x < ps.length ∧ y < ps.length ∧ Made T.C H a l d n (mChosen n ps t x y) Q
theorem sp_p_chosen_len {T : Txt K mg} {vs H Q E} (h : sp_p_chosen T vs H Q E) : vs.length = 4 := by obtain ⟨_, _, _, _, _, _, _, _, rfl, _⟩ := h; rfl
theorem ok_p_chosen (T : Txt K mg) : FnOk P w K mg base CX0 5 T.f_p_chosen T.fd_p_chosen ["self", "test", "one", "other"] (sp_p_chosen T) := by
  have G_p_apply := ok_p_apply (P := P) (w := w) (base := base) T; have G_p_check_part := ok_p_check_part (P := P) (w := w) (base := base) T; have G_p_num := ok_p_num (P := P) (w := w) (base := base) T
  refine T.F_p_chosen.ok sc_p_chosen (fun vs H Q E h => sp_p_chosen_len h) (fun cdv A outer s H vs Q E hr h => ?_)
  obtain ⟨a, l, d, n, ps, t, x, y, rfl, hp, hl, n1, n12, ht, hx, hy, k⟩ := h
  obtain ⟨dx, ho⟩ := id hp.ob
  refine ⟨_, (pss_cons (ps_for PassesOwn.never rfl (pi_tup (pe_tup (pa_cons (pv 1) (pa_cons (pv 2) (pa_cons (pv 3) pa_nil))))) (pg_name (i := 4) sc_p_chosen.nd rfl (Or.inl rfl))
        (pss_one (ps_expr (pe_meth (pv 0) T.cl T.m_p_check_part G_p_check_part (hr.mono (by decide)) T.b_p_check_part .nil passL (pa_cons (pv 4) pa_nil)))))
       (pss_cons (ps_set (i := 5) sc_p_chosen.nd rfl (Or.inl rfl) (pe_meth (pv 0) T.cl T.m_p_apply G_p_apply hr T.b_p_apply .nil passL (pa_cons pe_str (pa_cons (pv 2) (pa_cons (pv 3) pa_nil)))))
       (pss_cons (ps_set (i := 6) sc_p_chosen.nd rfl (Or.inl rfl) (pe_meth (pv 0) T.cl T.m_p_apply G_p_apply hr T.b_p_apply .nil passL (pa_cons pe_str (pa_cons (pv 1) (pa_cons (pe_meth (pv 0) T.cl T.m_p_num G_p_num hr T.b_p_num .nil passL (pa_cons pe_int pa_nil)) pa_nil)))))
       (pss_cons (ps_set (i := 7) sc_p_chosen.nd rfl (Or.inl rfl) (pe_meth (pv 0) T.cl T.m_p_apply G_p_apply hr T.b_p_apply .nil passL (pa_cons pe_str (pa_cons (pv 6) (pa_cons (pe_meth (pv 0) T.cl T.m_p_num G_p_num hr T.b_p_num .nil passL (pa_cons pe_int pa_nil)) pa_nil)))))
       (pss_one (ps_ret (pe_meth (pv 0) T.cl T.m_p_apply G_p_apply hr T.b_p_apply .nil passL (pa_cons pe_str (pa_cons (pv 3) (pa_cons (pe_meth (pv 0) T.cl T.m_p_apply G_p_apply hr T.b_p_apply .nil passL (pa_cons pe_str (pa_cons (pv 5) (pa_cons (pv 7) pa_nil)))) pa_nil)))))))))), ?_⟩
  have p1 := one_lt n1
  refine ⟨_, rfl, _, rfl, _, rfl, by show 3 ≤ sizeLine; decide, fun tt tt0 => ?_⟩
  have s1 := same_new (o := .tup [.int (t : Nat), .int (x : Nat), .int (y : Nat)]) tt0
  have htt : upd H tt (.tup [.int (t : Nat), .int (x : Nat), .int (y : Nat)]) tt = some (.tup [.int (t : Nat), .int (x : Nat), .int (y : Nat)]) := upd_same
  generalize upd H tt (.tup [.int (t : Nat), .int (x : Nat), .int (y : Nat)]) = H1 at s1 htt ⊢
  have hp0 := hp.news s1
  have ho1 := s1 _ _ ho
  refine ⟨tt, rfl, ⟨_, SqT.of htt⟩, ?_⟩
  refine for_it (walk_tup (xs := [.int (t : Nat), .int (x : Nat), .int (y : Nat)])) (fun i σ H3 => H3 = H1 ∧ ∃ v4 : Option V, σ = [some (.ref a), some (.int (t : Nat)), some (.int (x : Nat)), some (.int (y : Nat)), v4, none, none, none]) ⟨rfl, none, rfl⟩ (fun i σ H3 _ ⟨e, _⟩ => by rw [e]; exact SqT.of htt) ?_ ?_
  · rintro i z σ H3 H4 hi ⟨rfl, v4, rfl⟩ ⟨rfl, hz⟩
    obtain ⟨j, rfl, hj⟩ : ∃ j : Nat, z = .int (j : Nat) ∧ j < ps.length := by
      have i3 : i < 3 := hi
      have : i = 0 ∨ i = 1 ∨ i = 2 := by omega
      rcases this with rfl | rfl | rfl <;> cases hz
      · exact ⟨t, rfl, ht⟩
      · exact ⟨x, rfl, hx⟩
      · exact ⟨y, rfl, hy⟩
    refine ⟨_, rfl, a, dx, _, rfl, ho1, no_meth (by decide +kernel), _, rfl, a, l, d, n, ps, _, rfl, hp0, rfl, fun _ => ⟨rfl, _, rfl⟩, fun z => absurd (good_of hj) z⟩
  · rintro σ H3 ⟨rfl, v4, rfl⟩
    have A1 := mApply_len n ps .xor x y
    have A2 := (mApply_pre n ps .xor x y).length_le
    have A3 := mApply_lt (w := n) (o := .xor) hx hy
    refine ⟨_, rfl, a, dx, _, rfl, ho1, no_meth (by decide +kernel), _, rfl, _, rfl, a, l, d, n, ps, .xor, x, y, rfl, hp0, by omega, n12, hx, hy, Made.x (fun HA hpA fA => ?_) (by omega)⟩
    unfold mChosen at k
    generalize mApply n ps .xor x y = A at *
    obtain ⟨dA, oA⟩ := id hpA.ob
    have Z1 := mk_len A.2 (.num 0)
    have Z2 := (mk_pre A.2 (.num 0)).length_le
    have Z3 := mk_lt A.2 (.num 0)
    refine ⟨_, rfl, a, dA, _, rfl, oA, no_meth (by decide +kernel), _, rfl, _, rfl, a, dA, _, rfl, oA, no_meth (by decide +kernel), a, l, d, n, A.2, 0, rfl, hpA, by omega, by omega, by omega, Made.x (fun HZ hpZ fZ => ?_) (by omega)⟩
    generalize mk A.2 (.num 0) = Z at *
    have I1 := mApply_len n Z.2 .same t Z.1
    have I2 := (mApply_pre n Z.2 .same t Z.1).length_le
    have I3 := mApply_lt (w := n) (o := .same) (a := t) (b := Z.1) (by omega : t < Z.2.length) Z3
    refine ⟨a, l, d, n, Z.2, .same, t, Z.1, rfl, hpZ, by omega, n12, by omega, Z3, Made.x (fun HI hpI fI => ?_) (by omega)⟩
    generalize mApply n Z.2 .same t Z.1 = I at *
    obtain ⟨dI, oI⟩ := id hpI.ob
    have N1 := mk_len I.2 (.num 1)
    have N2 := (mk_pre I.2 (.num 1)).length_le
    have N3 := mk_lt I.2 (.num 1)
    refine ⟨_, rfl, a, dI, _, rfl, oI, no_meth (by decide +kernel), _, rfl, _, rfl, a, dI, _, rfl, oI, no_meth (by decide +kernel), a, l, d, n, I.2, 1, rfl, hpI, by omega, by omega, by omega, Made.x (fun HN hpN fN => ?_) (by omega)⟩
    generalize mk I.2 (.num 1) = N at *
    have M1 := mApply_len n N.2 .sub I.1 N.1
    have M2 := (mApply_pre n N.2 .sub I.1 N.1).length_le
    have M3 := mApply_lt (w := n) (o := .sub) (a := I.1) (b := N.1) (by omega : I.1 < N.2.length) N3
    refine ⟨a, l, d, n, N.2, .sub, I.1, N.1, rfl, hpN, by omega, n12, by omega, N3, Made.x (fun HM hpM fM => ?_) (by omega)⟩
    generalize mApply n N.2 .sub I.1 N.1 = M at *
    obtain ⟨dM, oM⟩ := id hpM.ob
    have B1 := mApply_len n M.2 .and A.1 M.1
    have B2 := (mApply_pre n M.2 .and A.1 M.1).length_le
    have B3 := mApply_lt (w := n) (o := .and) (a := A.1) (b := M.1) (by omega : A.1 < M.2.length) M3
    refine ⟨_, rfl, a, dM, _, rfl, oM, no_meth (by decide +kernel), _, rfl, _, rfl, a, dM, _, rfl, oM, no_meth (by decide +kernel), _, rfl, _, rfl, a, l, d, n, M.2, .and, A.1, M.1, rfl, hpM, by omega, n12, by omega, M3, Made.x (fun HB hpB fB => ?_) (by omega)⟩
    generalize mApply n M.2 .and A.1 M.1 = B at *
    have C1 := mApply_len n B.2 .xor y B.1
    refine ⟨a, l, d, n, B.2, .xor, y, B.1, rfl, hpB, by omega, n12, by omega, B3, Made.x (fun HC hpC fC => ?_) (by omega)⟩
    exact k HC hpC fun b o e h1 h2 => fC _ _ (fB _ _ (fM _ _ (fN _ _ (fI _ _ (fZ _ _ (fA _ _ (s1 _ _ e) h1 h2) h1 h2) h1 h2) h1 h2) h1 h2) h1 h2) h1 h2
def sp_lifted (T : Txt K mg) : Sp := fun vs H Q E => ∃ (a l d : Addr) (n : Nat) (ps : List Part) (s : Str) (x y wd : V), vs = [.ref a, .str s, x, y, wd] ∧ PoolAt T.C H a l d n ps ∧ ps.length ≤ 3990 ∧ 1 ≤ n ∧ n ≤ 12 ∧
  ((∃ (o : Op) (i j v : Nat), s = o.s ∧ x = .int i ∧ y = .int j ∧ wd = .int v ∧ i < ps.length ∧ j < ps.length ∧ 1 ≤ v ∧ v ≤ n ∧ Made T.C H a l d n (mLift n v ps o i j) Q) ∨
   ((∀ o : Op, s ≠ o.s) ∧ BadO T H E (.str s)) ∨
   (∃ o : Op, s = o.s ∧ plainV x = true ∧ goodP ps.length x = false ∧ ∀ H', Same H H' → E (.ref T.C_BadPart) none H') ∨
   (∃ (o : Op) (i : Nat), s = o.s ∧ x = .int i ∧ i < ps.length ∧ plainV y = true ∧ goodP ps.length y = false ∧ ∀ H', Same H H' → E (.ref T.C_BadPart) none H') ∨
   (∃ (o : Op) (i j : Nat), s = o.s ∧ x = .int i ∧ y = .int j ∧ i < ps.length ∧ j < ps.length ∧ plain4 wd = true ∧ inB 1 n wd = false ∧ BadN T H E (.str "width")))
theorem sp_lifted_len {T : Txt K mg} {vs H Q E} (h : sp_lifted T vs H Q E) : vs.length = 5 := by obtain ⟨_, _, _, _, _, _, _, _, _, rfl, _⟩ := h; rfl
theorem ok_lifted (T : Txt K mg) : FnOk P w K mg base (L2.CX P w) 5 T.f_lifted T.fd_lifted ["pool", "name", "one", "other", "width"] (sp_lifted T) := by
  have G_p_apply := ok_p_apply (P := P) (w := w) (base := base) T; have G_p_check_part := ok_p_check_part (P := P) (w := w) (base := base) T; have G_p_num := ok_p_num (P := P) (w := w) (base := base) T; have G_check_int := ok_check_int (P := P) (w := w) (base := base) T; have G_ones := ok_ones (P := P) (w := w) (base := base) T; have G_BadOp_init := ok_BadOp_init (P := P) (w := w) (base := base) T
  refine T.F_lifted.okX sc_lifted (fun vs H Q E h => sp_lifted_len h) (fun cdv A outer s H vs Q E hr h => ?_)
  obtain ⟨a, l, d, n, ps, s, x, y, wd, rfl, hp, hl, n1, n12, h⟩ := h
  obtain ⟨dx, ho⟩ := id hp.ob
  refine ⟨_, (pss_cons (ps_if (pt_cmpR op_notIn_seq (pv 1) (pe_glob (v := .ref T.a_OPS) rfl T.c_OPS rfl) (by rfl))
        (pss_one (ps_raise rfl (takes_of rfl rfl rfl rfl) (pmk_E T.o_BadOp T.ii_BadOp T.it_BadOp G_BadOp_init (hr.mono (by decide)) T.b_BadOp_init (by rfl) T.g_BadOp (pa_cons (pv 1) pa_nil))))
        pss_nil)
       (pss_cons (ps_expr (pe_meth (pv 0) T.cl T.m_p_check_part G_p_check_part (hr.mono (by decide)) T.b_p_check_part .nil (passes_call (takes_of rfl rfl rfl rfl) (fun _ _ _ _ h => h)) (pa_cons (pv 2) pa_nil)))
       (pss_cons (ps_expr (pe_meth (pv 0) T.cl T.m_p_check_part G_p_check_part (hr.mono (by decide)) T.b_p_check_part .nil (passes_call (takes_of rfl rfl rfl rfl) (fun _ _ _ _ h => h)) (pa_cons (pv 3) pa_nil)))
       (pss_cons (ps_expr (pe_call G_check_int (hr.mono (by decide)) rfl T.g_check_int T.F_check_int.kp T.b_check_int .nil (passes_call (takes_of rfl rfl rfl rfl) (fun _ _ _ _ h => h)) (pa_cons (pv 4) (pa_cons pe_int (pa_cons (pe_fldA (pv 0)) (pa_cons pe_str pa_nil))))))
       (pss_cons (ps_set (i := 5) sc_lifted.nd rfl (Or.inl rfl) (pe_meth (pv 0) T.cl T.m_p_apply G_p_apply hr T.b_p_apply .nil (passes_call (takes_of rfl rfl rfl rfl) (fun _ _ _ _ h => h)) (pa_cons (pv 1) (pa_cons (pv 2) (pa_cons (pv 3) pa_nil)))))
       (pss_cons (ps_if (pt_cmpR op_in_seq (pv 1) (pe_tup (pa_cons pe_str (pa_cons pe_str pa_nil))) (by rfl))
        (pss_one (ps_ret (pe_meth (pv 0) T.cl T.m_p_apply G_p_apply hr T.b_p_apply .nil (passes_call (takes_of rfl rfl rfl rfl) (fun _ _ _ _ h => h)) (pa_cons pe_str (pa_cons (pv 5) (pa_cons (pe_meth (pv 0) T.cl T.m_p_num G_p_num hr T.b_p_num .nil (passes_call (takes_of rfl rfl rfl rfl) (fun _ _ _ _ h => h)) (pa_cons (pe_call G_ones hr rfl T.g_ones T.F_ones.kp T.b_ones .nil pass0 (pa_cons (pv 4) pa_nil)) pa_nil)) pa_nil))))))
        pss_nil)
       (pss_one (ps_ret (pv 5))))))))), ?_⟩
  obtain hOps := T.v_OPS H
  have opi : ∀ z : Str, inV (.str z) [.str "add", .str "sub", .str "and", .str "or", .str "xor", .str "less", .str "same"] = true → ∃ o : Op, z = o.s := fun z hz => by
    unfold inV at hz
    simp [eqV] at hz
    rcases hz with h | h | h | h | h | h | h
    · exact ⟨.add, h.symm⟩
    · exact ⟨.sub, h.symm⟩
    · exact ⟨.and, h.symm⟩
    · exact ⟨.or, h.symm⟩
    · exact ⟨.xor, h.symm⟩
    · exact ⟨.less, h.symm⟩
    · exact ⟨.same, h.symm⟩
  refine ⟨_, rfl, T.a_OPS, _, rfl, .inr hOps, rfl, rfl, _, rfl, ?_⟩
  have isop : ∀ o : Op, s = o.s → ¬ (if true = true then !inV (.str s) [.str "add", .str "sub", .str "and", .str "or", .str "xor", .str "less", .str "same"] else inV (.str s) [.str "add", .str "sub", .str "and", .str "or", .str "xor", .str "less", .str "same"]) = true := fun o e => by
    rw [if_pos rfl, e, in_ops]; decide
  rcases h with ⟨o, i, j, v, e, rfl, rfl, rfl, hi, hj, v1, vn, k⟩ | ⟨no, bad⟩ | ⟨o, e, hx, gx, k⟩ | ⟨o, i, e, rfl, hi, hy, gy, k⟩ | ⟨o, i, j, e, rfl, rfl, hi, hj, hw, bw, bad⟩
  · refine iteN (isop o e) ?_
    subst e
    refine ⟨_, rfl, a, dx, _, rfl, ho, no_meth (by decide +kernel), _, rfl, a, l, d, n, ps, _, rfl, hp, rfl, fun _ => ?_, fun z => absurd (good_of hi) z⟩
    refine ⟨_, rfl, a, dx, _, rfl, ho, no_meth (by decide +kernel), _, rfl, a, l, d, n, ps, _, rfl, hp, rfl, fun _ => ?_, fun z => absurd (good_of hj) z⟩
    refine ⟨_, rfl, _, rfl, a, T.C, dx, _, _, rfl, ho, T.cl, T.nA_width, look_width _ _ _, .inl ⟨_, _, _, _, rfl, by omega, by omega, ?_⟩⟩
    have A1 := mApply_len n ps o i j
    have A3 := mApply_lt (w := n) (o := o) hi hj
    refine ⟨_, rfl, a, dx, _, rfl, ho, no_meth (by decide +kernel), _, rfl, _, rfl, _, rfl, a, l, d, n, ps, o, i, j, rfl, hp, by omega, n12, hi, hj, Made.x (fun HA hpA fA => ?_) (by omega)⟩
    unfold mLift at k
    refine ⟨_, rfl, by show 2 ≤ sizeLine; decide, fun tt tt0 => ?_⟩
    have s1 := same_new (o := .tup [.str "add", .str "sub"]) tt0
    have e2 : inV (.str o.s) [.str "add", .str "sub"] = decide (o = .add ∨ o = .sub) := by cases o <;> decide +kernel
    have htt : upd HA tt (.tup [.str "add", .str "sub"]) tt = some (.tup [.str "add", .str "sub"]) := upd_same
    generalize upd HA tt (.tup [.str "add", .str "sub"]) = H2 at s1 htt ⊢
    refine ⟨tt, _, rfl, .inr (SqT.of htt), rfl, rfl, _, rfl, ?_⟩
    have hp2 := hpA.news s1
    generalize hM : mApply n ps o i j = A at *
    obtain ⟨dA, oA⟩ := id hp2.ob
    by_cases ho' : o = .add ∨ o = .sub
    · rw [if_pos ho'] at k
      refine iteP (by show (if false = true then !inV _ _ else inV _ _) = true; rw [if_neg (by decide), e2]; exact decide_eq_true ho') ?_
      have hv := pow_pos' v
      have hvl := pow_le' vn
      have N1 := mk_len A.2 (.num (2 ^ v - 1))
      have N2 := (mk_pre A.2 (.num (2 ^ v - 1))).length_le
      have N3 := mk_lt A.2 (.num (2 ^ v - 1))
      refine ⟨_, rfl, a, dA, _, rfl, oA, no_meth (by decide +kernel), _, rfl, _, rfl, a, dA, _, rfl, oA, no_meth (by decide +kernel), _, rfl, v, rfl, by omega, a, l, d, n, A.2, 2 ^ v - 1, rfl, hp2, by omega, by omega, by omega, Made.x (fun HN hpN fN => ?_) (by omega)⟩
      generalize mk A.2 (.num (2 ^ v - 1)) = N at *
      have B1 := mApply_len n N.2 .and A.1 N.1
      refine ⟨a, l, d, n, N.2, .and, A.1, N.1, rfl, hpN, by omega, n12, by omega, N3, Made.x (fun HB hpB fB => ?_) (by omega)⟩
      exact k HB hpB fun b o e h1 h2 => fB _ _ (fN _ _ (s1 _ _ (fA _ _ e h1 h2)) h1 h2) h1 h2
    · rw [if_neg ho'] at k
      refine iteN (by show ¬ (if false = true then !inV _ _ else inV _ _) = true; rw [if_neg (by decide), e2]; exact fun z => ho' (of_decide_eq_true z)) ?_
      exact ⟨_, rfl, k H2 hp2 fun b o e h1 h2 => s1 _ _ (fA _ _ e h1 h2)⟩
  · refine iteP ?_ ⟨_, rfl, raiseE fun d' hd' => bad H d' (Same.refl _) hd'⟩
    rw [if_pos rfl]
    cases hv : inV (.str s) [.str "add", .str "sub", .str "and", .str "or", .str "xor", .str "less", .str "same"] with
    | true => obtain ⟨o, e⟩ := opi s hv; exact absurd e (no o)
    | false => rfl
  · refine iteN (isop o e) ?_
    refine ⟨_, rfl, a, dx, _, rfl, ho, no_meth (by decide +kernel), _, rfl, a, l, d, n, ps, _, rfl, hp, hx, fun z => absurd (gx.symm.trans z) (by decide), fun _ => k H (Same.refl _)⟩
  · refine iteN (isop o e) ?_
    refine ⟨_, rfl, a, dx, _, rfl, ho, no_meth (by decide +kernel), _, rfl, a, l, d, n, ps, _, rfl, hp, rfl, fun _ => ?_, fun z => absurd (good_of hi) z⟩
    refine ⟨_, rfl, a, dx, _, rfl, ho, no_meth (by decide +kernel), _, rfl, a, l, d, n, ps, _, rfl, hp, hy, fun z => absurd (gy.symm.trans z) (by decide), fun _ => k H (Same.refl _)⟩
  · refine iteN (isop o e) ?_
    refine ⟨_, rfl, a, dx, _, rfl, ho, no_meth (by decide +kernel), _, rfl, a, l, d, n, ps, _, rfl, hp, rfl, fun _ => ?_, fun z => absurd (good_of hi) z⟩
    refine ⟨_, rfl, a, dx, _, rfl, ho, no_meth (by decide +kernel), _, rfl, a, l, d, n, ps, _, rfl, hp, rfl, fun _ => ?_, fun z => absurd (good_of hj) z⟩
    exact ⟨_, rfl, _, rfl, a, T.C, dx, _, _, rfl, ho, T.cl, T.nA_width, look_width _ _ _, .inr ⟨_, _, _, _, rfl, hw, bw, bad⟩⟩
end
end My

/-! M3B -/
/-! terms as words: the mathematics -/
namespace My
open PySem L2
def opsV : List V := [.str "add", .str "sub", .str "and", .str "or", .str "xor", .str "less", .str "same"]
def opOf (z : Str) : Option Op := if z = "add" then some .add else if z = "sub" then some .sub else if z = "and" then some .and else if z = "or" then some .or else if z = "xor" then some .xor else if z = "less" then some .less else if z = "same" then some .same else none
theorem opOf_s (o : Op) : opOf o.s = some o := by cases o <;> decide +kernel
theorem opOf_of {z : Str} {o : Op} (h : opOf z = some o) : z = o.s := by
  unfold opOf at h
  by_cases h0 : z = "add"
  · rw [if_pos h0] at h; cases h; exact h0
  rw [if_neg h0] at h
  by_cases h1 : z = "sub"
  · rw [if_pos h1] at h; cases h; exact h1
  rw [if_neg h1] at h
  by_cases h2 : z = "and"
  · rw [if_pos h2] at h; cases h; exact h2
  rw [if_neg h2] at h
  by_cases h3 : z = "or"
  · rw [if_pos h3] at h; cases h; exact h3
  rw [if_neg h3] at h
  by_cases h4 : z = "xor"
  · rw [if_pos h4] at h; cases h; exact h4
  rw [if_neg h4] at h
  by_cases h5 : z = "less"
  · rw [if_pos h5] at h; cases h; exact h5
  rw [if_neg h5] at h
  by_cases h6 : z = "same"
  · rw [if_pos h6] at h; cases h; exact h6
  rw [if_neg h6] at h; cases h
theorem inV_ops (z : Str) : inV (.str z) opsV = (opOf z).isSome := by
  cases h : opOf z with
  | some o =>
    rw [opOf_of h]
    cases o <;> decide +kernel
  | none =>
    have no : ∀ o : Op, ¬ o.s = z := fun o e => by rw [← e, opOf_s] at h; cases h
    unfold inV opsV
    have := no .add; have := no .sub; have := no .and; have := no .or; have := no .xor; have := no .less; have := no .same
    unfold Op.s at *
    simp [eqV, *]
/-- a token that is written as a number -/
def numC (z : Str) : Bool := decide (1 ≤ z.length) && decide (z.length ≤ 40) && Txt.isascii z && Txt.isdigit z && !(decide (z.cps.toList.head? = some 48) && decide (1 < z.length))
def numT (z : Str) : Option Int := if numC z = true then PySem.intText? z else none
def digOk (z : Str) : Bool := decide (z.length ≤ 100) && (!numC z || (match PySem.intText? z with | some v => decide (0 ≤ v) | none => false))
def wordT (n : Nat) (z : Str) : Option Int := match numT z with | some v => if v ≤ 2 ^ n - 1 then some v else none | none => none
/-- the letters -/
abbrev Let := List (Str × Nat)
def dS (L : Let) : List (Key × V) := L.map fun q => ((.inr q.1 : Key), V.int (q.2 : Nat))
def lookS (L : Let) (z : Str) : Option Nat := (L.find? fun q => decide (q.1 = z)).map (·.2)
theorem valV_dS (L : Let) (z : Str) : valV (dS L) (.inr z) = (lookS L z).map fun k => V.int (k : Nat) := by
  unfold valV dS lookS
  induction L with
  | nil => rfl
  | cons q r ih =>
    rw [List.map_cons, List.find?_cons, List.find?_cons]
    have e : decide ((Sum.inr q.1 : Key) = .inr z) = decide (q.1 = z) := by
      by_cases h : q.1 = z
      · rw [h]; simp
      · rw [decide_eq_false h, decide_eq_false]; intro e; exact h (Sum.inr.inj e)
    simp only [e]
    cases h : decide (q.1 = z) with
    | true => rfl
    | false => exact ih
theorem dS_len (L : Let) : (dS L).length = L.length := by unfold dS; rw [List.length_map]
/-- the kind of a token: an operation, an operand, none -/
def tk (n : Nat) (L : Let) : V → Option Bool
  | .str z => if (opOf z).isSome = true then some true else if (wordT n z).isSome = true ∨ (lookS L z).isSome = true then some false else none
  | _ => none
/-- the index of the first wrong token -/
def chk (n : Nat) (L : Let) : List V → Nat → Nat → Option Nat
  | [], at', m => if m = 0 then none else some at'
  | x :: r, at', m => if m = 0 then some at' else match tk n L x with
    | none => some at'
    | some true => chk n L r (at' + 1) (m + 1)
    | some false => chk n L r (at' + 1) (m - 1)
inductive Tm | leaf (z : Str) | node (o : Op) (l r : Tm)
def Tm.toks : Tm → List Str
  | .leaf z => [z]
  | .node o l r => o.s :: (l.toks ++ r.toks)
theorem toks_node (o : Op) (a b : Tm) : (Tm.node o a b).toks = o.s :: (a.toks ++ b.toks) := rfl
theorem tk_str (n : Nat) (L : Let) (z : Str) : tk n L (.str z) = if (opOf z).isSome = true then some true else if (wordT n z).isSome = true ∨ (lookS L z).isSome = true then some false else none := rfl
theorem tk_op (n : Nat) (L : Let) (o : Op) : tk n L (.str o.s) = some true := by rw [tk_str, opOf_s]; rfl
/-- the leaves are operands -/
def Tm.good (n : Nat) (L : Let) : Tm → Prop
  | .leaf z => opOf z = none ∧ digOk z = true ∧ ((wordT n z).isSome = true ∨ (lookS L z).isSome = true)
  | .node _ l r => l.good n L ∧ r.good n L
theorem toks_pos : ∀ t : Tm, 1 ≤ t.toks.length
  | .leaf _ => Nat.le_refl _
  | .node o l r => by unfold Tm.toks; simp
theorem chk_term {n : Nat} {L : Let} : ∀ (t : Tm) (r : List V) (at' m : Nat), t.good n L → chk n L (t.toks.map V.str ++ r) at' (m + 1) = chk n L r (at' + t.toks.length) m
  | .leaf z, r, at', m, h => by
    have e : tk n L (.str z) = some false := by
      rw [tk_str, h.1]
      show (if (false : Bool) = true then _ else _) = _
      rw [if_neg (by decide), if_pos h.2.2]
    show chk n L (.str z :: r) at' (m + 1) = _
    rw [chk, if_neg (by omega), e]
    rfl
  | .node o a b, r, at', m, h => by
    have e := tk_op n L o
    show chk n L (.str o.s :: ((a.toks ++ b.toks).map V.str ++ r)) at' (m + 1) = _
    rw [chk, if_neg (by omega), e, List.map_append, List.append_assoc]
    dsimp only
    rw [chk_term a _ _ _ h.1, chk_term b _ _ _ h.2]
    rw [toks_node, List.length_cons, List.length_append]
    congr 1; omega
theorem chk_good {n : Nat} {L : Let} {t : Tm} (h : t.good n L) : chk n L (t.toks.map V.str) 0 1 = none := by
  have := chk_term t [] 0 0 h
  rw [List.append_nil] at this
  rw [this]; rfl
/-- a token more -/
theorem chk_more {n : Nat} {L : Let} {t : Tm} (h : t.good n L) (x : V) (r : List V) : chk n L (t.toks.map V.str ++ x :: r) 0 1 = some t.toks.length := by
  rw [chk_term t _ 0 0 h, chk, if_pos rfl, Nat.zero_add]
/-- what stands ahead of a place of a term leaves something missing -/
theorem chk_pre {n : Nat} {L : Let} : ∀ (t : Tm) (i : Nat) (r : List V) (at' m : Nat), t.good n L → i < t.toks.length → ∃ m', chk n L ((t.toks.take i).map V.str ++ r) at' (m + 1) = chk n L r (at' + i) (m + m' + 1)
  | .leaf z, i, r, at', m, h, hi => by
    have : i = 0 := by unfold Tm.toks at hi; simpa using hi
    subst this
    exact ⟨0, rfl⟩
  | .node o a b, 0, r, at', m, h, hi => ⟨0, rfl⟩
  | .node o a b, i + 1, r, at', m, h, hi => by
    have e := tk_op n L o
    have hi' : i < a.toks.length + b.toks.length := by rw [toks_node, List.length_cons, List.length_append] at hi; omega
    have e1 : ((Tm.node o a b).toks.take (i + 1)).map V.str ++ r = .str o.s :: (((a.toks ++ b.toks).take i).map V.str ++ r) := by rw [toks_node, List.take_succ_cons, List.map_cons]; rfl
    rw [e1, chk, if_neg (by omega), e]
    dsimp only
    by_cases ha : i < a.toks.length
    · rw [List.take_append_of_le_length (by omega)]
      obtain ⟨m', e'⟩ := chk_pre a i r (at' + 1) (m + 1) h.1 ha
      exact ⟨m' + 1, by rw [e']; congr 1 <;> omega⟩
    · have e2 : (a.toks ++ b.toks).take i = a.toks ++ b.toks.take (i - a.toks.length) := by
        rw [List.take_append, List.take_of_length_le (by omega)]
      rw [e2, List.map_append, List.append_assoc, chk_term a _ _ _ h.1]
      obtain ⟨m', e'⟩ := chk_pre b (i - a.toks.length) r (at' + 1 + a.toks.length) m h.2 (by omega)
      exact ⟨m', by rw [e']; congr 1; omega⟩
/-- a wrong token in the place of one -/
theorem chk_bad {n : Nat} {L : Let} {t : Tm} (h : t.good n L) {i : Nat} (hi : i < t.toks.length) {x : V} (hx : tk n L x = none) (r : List V) : chk n L ((t.toks.take i).map V.str ++ x :: r) 0 1 = some i := by
  obtain ⟨m', e⟩ := chk_pre t i (x :: r) 0 0 h hi
  rw [e, chk, if_neg (by omega), hx, Nat.zero_add]
/-- a term cut off -/
theorem chk_cut {n : Nat} {L : Let} {t : Tm} (h : t.good n L) {i : Nat} (hi : i < t.toks.length) : chk n L ((t.toks.take i).map V.str) 0 1 = some i := by
  obtain ⟨m', e⟩ := chk_pre t i [] 0 0 h hi
  rw [List.append_nil] at e
  rw [e, chk, if_neg (by omega), Nat.zero_add]
/-- an operand -/
def opd (n : Nat) (L : Let) (ps : List Part) (z : Str) : Nat × List Part := match wordT n z with | some v => mk ps (.num v) | none => ((lookS L z).getD 0, ps)
/-- what a term is read as -/
def rdT (n : Nat) (L : Let) : Tm → List Part → Nat × List Part
  | .leaf z, ps => opd n L ps z
  | .node o l r, ps => mApply n (rdT n L r (rdT n L l ps).2).2 o (rdT n L l ps).1 (rdT n L r (rdT n L l ps).2).1
/-- the machine: the top of the stack first -/
def comp (n : Nat) : List (Op × Option Nat) → Nat → List Part → List (Op × Option Nat) × Nat × List Part
  | [], p, ps => ([], p, ps)
  | (o, some q) :: S, p, ps => comp n S (mApply n ps o q p).1 (mApply n ps o q p).2
  | (o, none) :: S, p, ps => ((o, some p) :: S, p, ps)
def mstep (n : Nat) (L : Let) (st : List (Op × Option Nat) × Nat × List Part) (z : Str) : List (Op × Option Nat) × Nat × List Part := match opOf z with
  | some o => ((o, none) :: st.1, st.2.1, st.2.2)
  | none => comp n st.1 (opd n L st.2.2 z).1 (opd n L st.2.2 z).2
def mrun (n : Nat) (L : Let) (st : List (Op × Option Nat) × Nat × List Part) (zs : List Str) : List (Op × Option Nat) × Nat × List Part := zs.foldl (mstep n L) st
theorem mrun_term {n : Nat} {L : Let} : ∀ (t : Tm) (S : List (Op × Option Nat)) (p : Nat) (ps : List Part), t.good n L → mrun n L (S, p, ps) t.toks = comp n S (rdT n L t ps).1 (rdT n L t ps).2
  | .leaf z, S, p, ps, h => by
    show mstep n L (S, p, ps) z = _
    unfold mstep
    rw [h.1]; rfl
  | .node o a b, S, p, ps, h => by
    unfold mrun
    rw [toks_node, List.foldl_cons, List.foldl_append]
    have e : mstep n L (S, p, ps) o.s = ((o, none) :: S, p, ps) := by unfold mstep; rw [opOf_s]
    rw [e]
    have ha := mrun_term a ((o, none) :: S) p ps h.1
    unfold mrun at ha
    rw [ha, comp]
    have hb := mrun_term b ((o, some (rdT n L a ps).1) :: S) (rdT n L a ps).1 (rdT n L a ps).2 h.2
    unfold mrun at hb
    rw [hb, comp]; rfl
theorem mrun_all {n : Nat} {L : Let} {t : Tm} (h : t.good n L) (ps : List Part) (p : Nat) : mrun n L ([], p, ps) t.toks = ([], (rdT n L t ps).1, (rdT n L t ps).2) := by rw [mrun_term t [] p ps h, comp]
theorem mrun_snoc (n : Nat) (L : Let) (st : List (Op × Option Nat) × Nat × List Part) (zs : List Str) (z : Str) : mrun n L st (zs ++ [z]) = mstep n L (mrun n L st zs) z := by unfold mrun; rw [List.foldl_append]; rfl
end My

/-! PB -/
namespace My
open PySem L2
local macro_rules | `(tactic| walk_at "side") => `(tactic| first | with_reducible rfl | assumption | rfl | decide | omega | exact cpow1 (by omega) (by omega) | exact cdiv (by omega) (by omega) | exact two_pos _ | exact SqL.of (by assumption) | exact SqT.of (by assumption) | exact TyX.base (TyOf.int _) | exact TyX.base (TyOf.bl _) | exact TyX.base TyOf.non | exact scal_opt _ _ | exact k_ii | exact k_bi | exact k_ni | exact k_ib | exact k_bb | exact TyX.base (TyOf.lst (by assumption)) | exact k_ll | exact k_lt)
local macro_rules | `(tactic| walk_at "p") => `(tactic| repeat (first | refine And.intro (by walk_at "side") ?_ | apply Exists.intro | refine iteN (by assumption) ?_ | refine iteP (by assumption) ?_ | refine iteN (by decide) ?_ | refine iteP (by decide) ?_))

theorem sg0 (c : Nat) : decide (V.str ⟨#[c]⟩ = V.str "0") = decide (c = 48) := by
  by_cases h : c = 48
  · rw [h]; decide +kernel
  · rw [decide_eq_false h, decide_eq_false]
    intro z
    have := V.str.inj z
    have e : (⟨#[c]⟩ : Str).cps.toList = ("0" : Str).cps.toList := by rw [this]
    have e2 : ("0" : Str).cps.toList = [48] := by decide +kernel
    rw [e2] at e
    simp at e
    exact h e
section
variable {P : Program} {w : World} {K : PySem.W.Frag} {mg : Str → Option Value} {base : Heap}
def sp_number_of (_ : Txt K mg) : Sp := fun vs H Q _ => ∃ z : Str, vs = [.str z] ∧ digOk z = true ∧ Q (optV (numT z)) H
theorem sp_number_of_len {T : Txt K mg} {vs H Q E} (h : sp_number_of T vs H Q E) : vs.length = 1 := by obtain ⟨_, rfl, _⟩ := h; rfl
theorem ok_number_of (T : Txt K mg) : FnOk P w K mg base CX0 1 T.f_number_of T.fd_number_of ["token"] (sp_number_of T) := by
  skip
  refine T.F_number_of.ok sc_number_of (fun vs H Q E h => sp_number_of_len h) (fun cdv A outer s H vs Q E hr h => ?_)
  obtain ⟨z, rfl, hz, k⟩ := h
  refine ⟨_, (pss_cons (ps_if (pt_not (pt_chain op_le op_le pe_int (pe_callB call_len_str (by rfl) T.n_len (by decide +kernel) (pa_cons (pv 0) pa_nil)) (pe_glob (v := .int 40) rfl T.c_MOST_DIGITS ⟨_, rfl⟩)))
        (pss_one (ps_ret pe_non))
        pss_nil)
       (pss_cons (ps_if (PW.pt (pw_or (pt_not (pt_val (pe_bm0 PySem.F.plainAttrs_str PySem.F.slot_str_isascii PySem.F.type_str_isascii mt_isascii (pv 0)))) (pw_or1 (pt_not (pt_val (pe_bm0 PySem.F.plainAttrs_str PySem.F.slot_str_isdigit PySem.F.type_str_isdigit mt_isdigit (pv 0)))))))
        (pss_one (ps_ret pe_non))
        pss_nil)
       (pss_cons (ps_if (PW.pt (pw_and (pt_cmpR op_eq (pe_ix ix_str (pv 0) pe_int (fun _ _ => rfl)) pe_str (nomark _)) (pw_and1 (pt_cmpR op_gt (pe_callB call_len_str (by rfl) T.n_len (by decide +kernel) (pa_cons (pv 0) pa_nil)) pe_int (nomark _)))))
        (pss_one (ps_ret pe_non))
        pss_nil)
       (pss_one (ps_ret (pe_callTy call_int_str (by rfl) T.n_int (by decide +kernel) (pa_cons (pv 0) pa_nil))))))), ?_⟩
  have sz : sizeLine = 16777216 := sizeLine_eq
  unfold digOk at hz
  rw [Bool.and_eq_true] at hz
  have z100 := of_decide_eq_true hz.1
  have no : numC z = false → Q .non H := fun e => by
    unfold numT at k
    rw [if_neg (by rw [e]; decide)] at k
    exact k
  refine ⟨_, rfl, z, rfl, by omega, _, _, rfl, rfl, _, rfl, ?_⟩
  have e1 : decide ((1 : Int) ≤ (z.length : Nat)) = decide (1 ≤ z.length) := decide_eq_decide.mpr (by omega)
  have e2 : decide (((z.length : Nat) : Int) ≤ 40) = decide (z.length ≤ 40) := decide_eq_decide.mpr (by omega)
  rw [e1]
  refine iteB (fun c1 => ?_) fun c1 => ⟨_, rfl, iteP (by decide) (no (by unfold numC; rw [c1]; rfl))⟩
  refine ⟨_, _, rfl, rfl, _, rfl, ?_⟩
  rw [e2]
  cases c2 : decide (z.length ≤ 40) with
  | false => exact iteP (by decide) (no (by unfold numC; rw [c1, c2]; rfl))
  | true =>
  refine iteN (by decide) ?_
  refine ⟨_, rfl, rfl, z, rfl, rfl, trivial, _, rfl, ?_⟩
  cases c3 : Txt.isascii z with
  | false => exact iteP (by decide) (iteP (by decide) (no (by unfold numC; rw [c1, c2, c3]; rfl)))
  | true =>
  refine iteN (by decide) ?_
  refine ⟨_, rfl, rfl, z, rfl, rfl, trivial, _, rfl, ?_⟩
  cases c4 : Txt.isdigit z with
  | false => exact iteP (by decide) (no (by unfold numC; rw [c1, c2, c3, c4]; rfl))
  | true =>
  refine iteN (by decide) ?_
  have l1 := of_decide_eq_true c1
  have zl : z.cps.toList.length = z.length := by rw [Array.length_toList]; rfl
  have hg := List.getElem?_eq_getElem (l := z.cps.toList) (i := 0) (by omega)
  generalize z.cps.toList[0]'(by omega) = c0 at hg
  have hh : z.cps.toList.head? = some c0 := by rw [List.head?_eq_getElem?]; exact hg
  have yes : (decide (c0 = 48) && decide (1 < z.length)) = false → numC z = true := fun e => by
    unfold numC
    rw [c1, c2, c3, c4, hh]
    have : decide (some c0 = some 48) = decide (c0 = 48) := by simp
    rw [this, e]; rfl
  have last : numC z = true → ∃ a n, [V.str z] = [V.str a] ∧ PySem.intText? a = some n ∧ a.length ≤ 640 ∧ Q (.int n) H := fun e => by
    rw [e] at hz
    have h2 := hz.2
    rw [Bool.not_true, Bool.false_or] at h2
    cases hi : PySem.intText? z with
    | none => rw [hi] at h2; cases h2
    | some v =>
      unfold numT at k
      rw [if_pos e, hi] at k
      exact ⟨z, v, rfl, hi, by omega, k⟩
  refine ⟨_, rfl, z, _, c0, rfl, rfl, by omega, atI_nat (j := 0) hg, rfl, _, rfl, ?_⟩
  rw [sg0]
  cases c5 : decide (c0 = 48) with
  | false =>
    refine iteN (by decide) ?_
    exact ⟨_, rfl, last (yes (by rw [c5]; rfl))⟩
  | true =>
    refine iteP (by decide) ?_
    refine ⟨_, rfl, z, rfl, by omega, _, _, rfl, rfl, _, rfl, ?_⟩
    have e3 : decide ((1 : Int) < (z.length : Nat)) = decide (1 < z.length) := decide_eq_decide.mpr (by omega)
    rw [e3]
    cases c6 : decide (1 < z.length) with
    | true =>
      refine iteP rfl (no ?_)
      unfold numC
      have : decide (some c0 = some 48) = decide (c0 = 48) := by simp
      rw [c1, c2, c3, c4, hh, this, c5, c6]; rfl
    | false =>
      refine iteN (by decide) ?_
      exact ⟨_, rfl, last (yes (by rw [c5, c6]; rfl))⟩
def sp_word_of (T : Txt K mg) : Sp := fun vs H Q _ => ∃ (a l d : Addr) (n : Nat) (ps : List Part) (z : Str), vs = [.ref a, .str z] ∧ PoolAt T.C H a l d n ps ∧ n ≤ 12 ∧ digOk z = true ∧ Q (optV (wordT n z)) H
theorem sp_word_of_len {T : Txt K mg} {vs H Q E} (h : sp_word_of T vs H Q E) : vs.length = 2 := by obtain ⟨_, _, _, _, _, _, rfl, _⟩ := h; rfl
theorem ok_word_of (T : Txt K mg) : FnOk P w K mg base CX0 5 T.f_word_of T.fd_word_of ["pool", "token"] (sp_word_of T) := by
  have G_number_of := ok_number_of (P := P) (w := w) (base := base) T; have G_ones := ok_ones (P := P) (w := w) (base := base) T
  refine T.F_word_of.ok sc_word_of (fun vs H Q E h => sp_word_of_len h) (fun cdv A outer s H vs Q E hr h => ?_)
  obtain ⟨a, l, d, n, ps, z, rfl, hp, n12, hz, k⟩ := h
  obtain ⟨dx, ho⟩ := id hp.ob
  refine ⟨_, (pss_cons (ps_set (i := 2) sc_word_of.nd rfl (Or.inl rfl) (pe_call G_number_of (hr.mono (by decide)) rfl T.g_number_of T.F_number_of.kp T.b_number_of .nil pass0 (pa_cons (pv 1) pa_nil)))
       (pss_one (ps_ret (pe_ifExp (PW.pt (pw_and (pt_cmpR op_notN (pv 2) pe_non (nomark _)) (pw_and1 (pt_cmpR op_le (pv 2) (pe_call G_ones hr rfl T.g_ones T.F_ones.kp T.b_ones .nil pass0 (pa_cons (pe_fldA (pv 0)) pa_nil)) (nomark _))))) (pv 2) pe_non)))), ?_⟩
  refine ⟨_, rfl, z, rfl, hz, ?_⟩
  unfold wordT at k
  cases hn : numT z with
  | none =>
    rw [hn] at k
    refine ⟨_, rfl, rfl, _, rfl, iteN (by decide) ?_⟩
    exact k
  | some v =>
    rw [hn] at k
    dsimp only at k
    refine ⟨_, rfl, rfl, _, rfl, iteP (by rw [decide_eq_false (by intro z; cases z)]; rfl) ?_⟩
    refine ⟨_, rfl, _, rfl, a, T.C, dx, _, _, rfl, ho, T.cl, T.nA_width, look_width _ _ _, n, rfl, n12, _, _, rfl, rfl, _, rfl, ?_⟩
    by_cases hv : v ≤ 2 ^ n - 1
    · rw [if_pos hv] at k
      exact iteP (dT hv) ⟨_, rfl, k⟩
    · rw [if_neg hv] at k
      exact iteN (dF hv) k
def sp_operand (T : Txt K mg) : Sp := fun vs H Q _ => ∃ (a l d D : Addr) (n : Nat) (ps : List Part) (L : Let) (z : Str), vs = [.ref a, .str z, .ref D] ∧ PoolAt T.C H a l d n ps ∧ ps.length ≤ 3990 ∧ n ≤ 12 ∧ H D = some (.dK (dS L)) ∧ digOk z = true ∧ ((wordT n z).isSome = true ∨ (lookS L z).isSome = true) ∧ (∀ v, numT z = some v → 0 ≤ v) ∧ Made T.C H a l d n (opd n L ps z) Q
theorem sp_operand_len {T : Txt K mg} {vs H Q E} (h : sp_operand T vs H Q E) : vs.length = 3 := by obtain ⟨_, _, _, _, _, _, _, _, rfl, _⟩ := h; rfl
theorem ok_operand (T : Txt K mg) : FnOk P w K mg base CX0 6 T.f_operand T.fd_operand ["pool", "token", "letters"] (sp_operand T) := by
  have G_p_num := ok_p_num (P := P) (w := w) (base := base) T; have G_word_of := ok_word_of (P := P) (w := w) (base := base) T
  refine T.F_operand.ok sc_operand (fun vs H Q E h => sp_operand_len h) (fun cdv A outer s H vs Q E hr h => ?_)
  obtain ⟨a, l, d, D, n, ps, L, z, rfl, hp, hl, n12, hD, hz, hs, hpos, k⟩ := h
  obtain ⟨dx, ho⟩ := id hp.ob
  refine ⟨_, (pss_cons (ps_set (i := 3) sc_operand.nd rfl (Or.inl rfl) (pe_call G_word_of hr rfl T.g_word_of T.F_word_of.kp T.b_word_of .nil pass0 (pa_cons (pv 0) (pa_cons (pv 1) pa_nil))))
       (pss_one (ps_ret (pe_ifExp (pt_cmpR op_isN (pv 3) pe_non (nomark _)) (pe_dget (hu_of hr) (pv 2) (pv 1) (fun _ _ => rfl)) (pe_meth (pv 0) T.cl T.m_p_num G_p_num (hr.mono (by decide)) T.b_p_num .nil passL (pa_cons (pv 3) pa_nil)))))), ?_⟩
  refine ⟨_, rfl, _, rfl, a, l, d, n, ps, z, rfl, hp, n12, hz, ?_⟩
  unfold opd at k
  cases hw : wordT n z with
  | none =>
    rw [hw] at k
    refine ⟨_, rfl, rfl, _, rfl, iteP rfl ?_⟩
    have hls : (lookS L z).isSome = true := hs.elim (fun e => by rw [hw] at e; cases e) id
    cases hk : lookS L z with
    | none => rw [hk] at hls; cases hls
    | some i =>
      rw [hk] at k
      refine ⟨_, rfl, _, rfl, D, .int (i : Nat), rfl, .inl ⟨_, .inr z, Rd.of hD, rfl, by rw [valV_dS, hk]; rfl⟩, ?_⟩
      exact k H hp fun b o e _ _ => e
  | some v =>
    rw [hw] at k
    have hv : 0 ≤ v ∧ v ≤ 2 ^ n - 1 := by
      unfold wordT at hw
      cases hn : numT z with
      | none => rw [hn] at hw; cases hw
      | some v' =>
        rw [hn] at hw
        dsimp only at hw
        split at hw
        · cases hw; exact ⟨hpos _ hn, by assumption⟩
        · cases hw
    refine ⟨_, rfl, rfl, _, rfl, iteN (by intro z; cases z) ?_⟩
    have M1 := mk_len ps (.num v)
    exact ⟨_, rfl, a, dx, _, rfl, ho, no_meth (by decide +kernel), _, rfl, a, l, d, n, ps, v, rfl, hp, by omega, hv.1, hv.2, Made.x k (by omega)⟩
end
end My

/-! PC -/
namespace My
open PySem L2
local macro_rules | `(tactic| walk_at "side") => `(tactic| first | with_reducible rfl | assumption | rfl | decide | omega | exact cpow1 (by omega) (by omega) | exact cdiv (by omega) (by omega) | exact two_pos _ | exact SqL.of (by assumption) | exact SqT.of (by assumption) | exact TyX.base (TyOf.int _) | exact TyX.base (TyOf.bl _) | exact TyX.base TyOf.non | exact scal_opt _ _ | exact k_ii | exact k_bi | exact k_ni | exact k_ib | exact k_bb | exact TyX.base (TyOf.lst (by assumption)) | exact k_ll | exact k_lt)
local macro_rules | `(tactic| walk_at "p") => `(tactic| repeat (first | refine And.intro (by walk_at "side") ?_ | apply Exists.intro | refine iteN (by assumption) ?_ | refine iteP (by assumption) ?_ | refine iteN (by decide) ?_ | refine iteP (by decide) ?_))

def TokOk : V → Prop | .str z => digOk z = true | x => plainV x = true
theorem tok4 {x : V} (h : TokOk x) : plain4 x = true := by
  cases x with
  | str z => rfl
  | _ => exact p4 h
section
variable {P : Program} {w : World} {K : PySem.W.Frag} {mg : Str → Option Value} {base : Heap}
def sp_check_tokens (T : Txt K mg) : Sp := fun vs H Q E => ∃ (a l d D : Addr) (n : Nat) (ps : List Part) (L : Let) (v : V), vs = [.ref a, v, .ref D] ∧ PoolAt T.C H a l d n ps ∧ n ≤ 12 ∧ H D = some (.dK (dS L)) ∧ L.length ≤ 1000 ∧
  ((plainV v = true ∧ BadW T H E (.int (-1))) ∨ ∃ (q : Addr) (xs : List V), v = .ref q ∧ Row H q xs ∧ (∀ x ∈ xs, TokOk x) ∧ xs.length ≤ 1000 ∧
    (chk n L xs 0 1 = none → ∀ H', Same H H' → Q .non H') ∧ ∀ i, chk n L xs 0 1 = some i → BadW T H E (.int (i : Nat)))
theorem sp_check_tokens_len {T : Txt K mg} {vs H Q E} (h : sp_check_tokens T vs H Q E) : vs.length = 3 := by obtain ⟨_, _, _, _, _, _, _, _, rfl, _⟩ := h; rfl
theorem ok_check_tokens (T : Txt K mg) : FnOk P w K mg base (L2.CX P w) 6 T.f_check_tokens T.fd_check_tokens ["pool", "words", "letters"] (sp_check_tokens T) := by
  have G_word_of := ok_word_of (P := P) (w := w) (base := base) T; have G_is_row := ok_is_row (P := P) (w := w) (base := base) T; have G_BadWords_init := ok_BadWords_init (P := P) (w := w) (base := base) T
  refine T.F_check_tokens.okX sc_check_tokens (fun vs H Q E h => sp_check_tokens_len h) (fun cdv A outer s H vs Q E hr h => ?_)
  obtain ⟨a, l, d, D, n, ps, L, v, rfl, hp, n12, hD, L1000, h⟩ := h
  obtain ⟨dx, ho⟩ := id hp.ob
  have sz : sizeLine = 16777216 := sizeLine_eq
  refine ⟨_, (pss_cons (ps_if (pt_not (pt_val (pe_call G_is_row (hr.mono (by decide)) rfl T.g_is_row T.F_is_row.kp T.b_is_row .nil pass0 (pa_cons (pv 1) pa_nil))))
        (pss_one (ps_raise rfl (takes_of rfl rfl rfl rfl) (pmk_E T.o_BadWords T.ii_BadWords T.it_BadWords G_BadWords_init (hr.mono (by decide)) T.b_BadWords_init (by rfl) T.g_BadWords (pa_cons (pe_un un_neg pe_int) pa_nil))))
        pss_nil)
       (pss_cons (ps_set (i := 3) sc_check_tokens.nd rfl (Or.inl rfl) pe_int)
       (pss_cons (ps_for (passes_of rfl) rfl (pi_enS (by rfl) T.n_enumerate (pa_cons (pv 1) pa_nil)) (pg_tup rfl (pgs_cons (pg_name (i := 4) sc_check_tokens.nd rfl (Or.inl rfl)) (pgs_cons (pg_name (i := 5) sc_check_tokens.nd rfl (Or.inl rfl)) pgs_nil)))
        (pss_cons (ps_if (PW.pt (pw_or (pt_cmpR op_eq (pv 3) pe_int (nomark _)) (pw_or1 (pt_not (pt_val (pe_callB call_isTy (by rfl) T.n_isinstance (by decide +kernel) (pa_cons (pv 5) (pa_cons (pe_bltn (v := .ty "str") (by rfl) T.n_str (by decide +kernel) rfl) pa_nil))))))))
        (pss_one (ps_raise rfl (takes_of rfl rfl rfl rfl) (pmk_E T.o_BadWords T.ii_BadWords T.it_BadWords G_BadWords_init (hr.mono (by decide)) T.b_BadWords_init (by rfl) T.g_BadWords (pa_cons (pv 4) pa_nil))))
        pss_nil)
       (pss_one (ps_if (pt_cmpR op_in_seq (pv 5) (pe_glob (v := .ref T.a_OPS) rfl T.c_OPS rfl) (by rfl))
        (pss_one (ps_aug (i := 3) sc_check_tokens.nd rfl (Or.inl rfl) pe_int ip_add))
        (pss_one (ps_if (PW.pt (pw_or (pt_cmpR op_notN (pe_call G_word_of hr rfl T.g_word_of T.F_word_of.kp T.b_word_of .nil pass0 (pa_cons (pv 0) (pa_cons (pv 5) pa_nil))) pe_non (nomark _)) (pw_or1 (pt_cmp (pc_din (hu_of hr) (pv 5) (pv 2))))))
        (pss_one (ps_aug (i := 3) sc_check_tokens.nd rfl (Or.inl rfl) pe_int ip_sub))
        (pss_one (ps_raise rfl (takes_of rfl rfl rfl rfl) (pmk_E T.o_BadWords T.ii_BadWords T.it_BadWords G_BadWords_init (hr.mono (by decide)) T.b_BadWords_init (by rfl) T.g_BadWords (pa_cons (pv 4) pa_nil))))))))))
       (pss_one (ps_if (pt_cmpR op_gt (pv 3) pe_int (nomark _))
        (pss_one (ps_raise rfl (takes_of rfl rfl rfl rfl) (pmk_E T.o_BadWords T.ii_BadWords T.it_BadWords G_BadWords_init (hr.mono (by decide)) T.b_BadWords_init (by rfl) T.g_BadWords (pa_cons (pe_callB call_len_seq (by rfl) T.n_len (by decide +kernel) (pa_cons (pv 1) pa_nil)) pa_nil))))
        pss_nil))))), ?_⟩
  rcases h with ⟨hv, bad⟩ | ⟨q, xs, rfl, hq, hx, l1000, k1, k2⟩
  · refine ⟨_, rfl, .inr ⟨v, rfl, hv, fun H1 s1 => ⟨_, rfl, iteP rfl ?_⟩⟩⟩
    exact ⟨1, rfl, raiseE fun d' hd' => bad _ d' s1 hd'⟩
  refine ⟨_, rfl, .inl ⟨q, xs, rfl, hq, fun H1 s1 => ⟨_, rfl, iteN (fun z => by cases z) ?_⟩⟩⟩
  refine ⟨_, rfl, q, xs, rfl, hq.news s1, fun J G wk hG => ?_⟩
  refine for_it wk (fun i σ H3 => Same H H3 ∧ ∃ (m : Nat) (v4 v5 : Option V), chk n L xs 0 1 = chk n L (xs.drop i) i m ∧ m ≤ i + 1 ∧ σ = [some (.ref a), some (.ref q), some (.ref D), some (.int (m : Nat)), v4, v5]) ⟨s1, 1, none, none, rfl, Nat.le_refl _, rfl⟩ ?_ ?_ ?_
  · rintro i σ H3 hi ⟨s3, _⟩
    refine hG _ ?_
    rw [hq.eq s3, hq.eq s1]
  · rintro i x σ H3 H4 hi ⟨s3, m, v4, v5, hc, hm, rfl⟩ ⟨T', x', y', rfl, hT0, rfl, hx', hy⟩
    cases hx'
    have s4 := s3.trans (same_new (o := .tup [.int (i : Nat), y']) hT0)
    have hym := hx y' (List.mem_of_getElem? hy)
    have hdr : xs.drop i = y' :: xs.drop (i + 1) := by
      rw [List.drop_eq_getElem_cons hi]
      rw [(List.getElem?_eq_some_iff.mp hy).2]
    rw [hdr, chk] at hc
    refine ⟨T', _, rfl, SqT.of upd_same, rfl, _, _, rfl, _, _, rfl, rfl, ?_⟩
    generalize hH4 : upd H3 T' (.tup [.int (i : Nat), y']) = H4 at s4 ⊢
    have bad : ∀ j : Nat, chk n L xs 0 1 = some i → tMkE T.C_BadWords (sp_BadWords_init T) (tCons (tVar 4) tNil) [some (.ref a), some (.ref q), some (.ref D), some (.int (m : Nat)), some (.int (i : Nat)), some y'] H4 fun cls d' H' => E cls d' H' := fun _ e => ⟨_, rfl, raiseE fun d' hd' => k2 i e _ d' s4 hd'⟩
    refine ⟨_, rfl, rfl, _, rfl, ?_⟩
    by_cases m0 : m = 0
    · rw [if_pos m0] at hc
      refine iteP (by rw [m0]; rfl) (iteP rfl (bad 0 hc))
    rw [if_neg m0] at hc
    refine iteN (dF (fun z => m0 (Int.ofNat.inj (V.int.inj z)))) ?_
    refine ⟨_, rfl, _, _, _, rfl, ty4 (tok4 hym), _, k_4s (tok4 hym), _, rfl, ?_⟩
    cases y' with
    | str z =>
      have hz : digOk z = true := hym
      refine iteN (by show ¬ (!true) = true; decide) ?_
      rw [tk_str] at hc
      refine ⟨_, rfl, T.a_OPS, opsV, rfl, .inr (T.v_OPS _), rfl, rfl, _, rfl, ?_⟩
      have hio : (if false = true then !inV (.str z) opsV else inV (.str z) opsV) = (opOf z).isSome := by rw [if_neg (by decide), inV_ops]
      cases ho' : (opOf z).isSome with
      | true =>
        rw [ho', if_pos rfl] at hc
        refine iteP (hio.trans ho') ?_
        exact ⟨_, rfl, _, _, rfl, rfl, s4, m + 1, _, _, hc, by omega, rfl⟩
      | false =>
        rw [ho', if_neg (by decide)] at hc
        refine iteN (fun z => by rw [hio.trans ho'] at z; cases z) ?_
        have hp4 := hp.news s4
        refine ⟨_, rfl, _, rfl, a, l, d, n, ps, z, rfl, hp4, n12, hz, ?_⟩
        have minus : chk n L xs 0 1 = chk n L (xs.drop (i + 1)) (i + 1) (m - 1) → ∃ (m' : Nat) (v4 v5 : Option V), chk n L xs 0 1 = chk n L (xs.drop (i + 1)) (i + 1) m' ∧ m' ≤ i + 1 + 1 ∧ [some (V.ref a), some (.ref q), some (.ref D), some (.int ((m : Nat) - 1)), some (.int (i : Nat)), some (.str z)] = [some (.ref a), some (.ref q), some (.ref D), some (.int (m' : Nat)), v4, v5] := fun e => ⟨m - 1, _, _, e, by omega, by rw [show ((m - 1 : Nat) : Int) = (m : Nat) - 1 by omega]⟩
        refine ⟨rfl, _, rfl, ?_⟩
        cases hw : wordT n z with
        | some v =>
          rw [hw] at hc
          rw [if_pos (.inl rfl)] at hc
          refine iteP (by show (!decide (V.int v = V.non)) = true; rw [decide_eq_false (by intro z; cases z)]; rfl) ?_
          exact ⟨_, rfl, _, _, rfl, rfl, s4, minus hc⟩
        | none =>
          rw [hw] at hc
          refine iteN (by show ¬ (!decide (V.non = V.non)) = true; decide) ?_
          refine ⟨_, rfl, _, rfl, D, _, rfl, .inl ⟨_, .inr z, Rd.of (s4 _ _ hD), rfl, rfl⟩, _, rfl, ?_⟩
          rw [valV_dS]
          cases hk : lookS L z with
          | some j =>
            rw [hk] at hc
            rw [if_pos (.inr rfl)] at hc
            refine iteP rfl ?_
            exact ⟨_, rfl, _, _, rfl, rfl, s4, minus hc⟩
          | none =>
            rw [hk] at hc
            rw [if_neg (by rintro (z | z) <;> cases z)] at hc
            exact iteN (by intro z; cases z) (bad 0 hc)
    | int i' =>
      refine iteP rfl (bad 0 hc)
    | bl b => exact iteP rfl (bad 0 hc)
    | non => exact iteP rfl (bad 0 hc)
    | _ => cases hym
  · rintro σ H3 ⟨s3, m, v4, v5, hc, hm, rfl⟩
    rw [List.drop_of_length_le (Nat.le_refl _), chk] at hc
    refine ⟨_, rfl, _, _, rfl, rfl, _, rfl, ?_⟩
    by_cases m0 : m = 0
    · rw [if_pos m0] at hc
      refine iteN (dF (by omega)) ?_
      exact k1 hc _ s3
    · rw [if_neg m0] at hc
      refine iteP (dT (by omega)) ?_
      exact ⟨_, rfl, q, xs, rfl, (hq.news s3).sq, raiseE fun d' hd' => k2 _ hc _ d' s3 hd'⟩
end
end My

/-! PD -/
namespace My
open PySem L2
local macro_rules | `(tactic| walk_at "side") => `(tactic| first | with_reducible rfl | assumption | rfl | decide | omega | exact cpow1 (by omega) (by omega) | exact cdiv (by omega) (by omega) | exact two_pos _ | exact SqL.of (by assumption) | exact SqT.of (by assumption) | exact TyX.base (TyOf.int _) | exact TyX.base (TyOf.bl _) | exact TyX.base TyOf.non | exact scal_opt _ _ | exact k_ii | exact k_bi | exact k_ni | exact k_ib | exact k_bb | exact TyX.base (TyOf.lst (by assumption)) | exact k_ll | exact k_lt)
local macro_rules | `(tactic| walk_at "p") => `(tactic| repeat (first | refine And.intro (by walk_at "side") ?_ | apply Exists.intro | refine iteN (by assumption) ?_ | refine iteP (by assumption) ?_ | refine iteN (by decide) ?_ | refine iteP (by decide) ?_))

def optN : Option Nat → V | some k => .int (k : Nat) | none => .non
abbrev WE := Op × Option Nat
def EAt (H : Hp) (t : Addr) (e : WE) : Prop := H t = some (.tup [.str e.1.s, optN e.2])
/-- the waiting operations, the last one at the end -/
def WR (H : Hp) (wl : Addr) (R : List WE) : Prop := ∃ ts : List Addr, H wl = some (.lst (ts.map V.ref)) ∧ ts.length = R.length ∧ ∀ (i : Nat) (e : WE), R[i]? = some e → ∃ t, ts[i]? = some t ∧ EAt H t e
theorem WR.keep {H H' : Hp} {wl : Addr} {R : List WE} (h : WR H wl R) (hw : ∀ xs, H wl = some (.lst xs) → H' wl = some (.lst xs)) (ht : ∀ b ys, H b = some (.tup ys) → H' b = some (.tup ys)) : WR H' wl R := by
  obtain ⟨ts, h1, h2, h3⟩ := h
  refine ⟨ts, hw _ h1, h2, fun i e hi => ?_⟩
  obtain ⟨t, e1, e2⟩ := h3 i e hi
  exact ⟨t, e1, ht _ _ e2⟩
theorem WR.push {H H' : Hp} {wl t : Addr} {R : List WE} {xs : List V} {e : WE} (h : WR H wl R) (hx : H wl = some (.lst xs)) (ht : ∀ b ys, H b = some (.tup ys) → H' b = some (.tup ys)) (hw : H' wl = some (.lst (xs ++ [.ref t]))) (et : EAt H' t e) : WR H' wl (R ++ [e]) := by
  obtain ⟨ts, h1, h2, h3⟩ := h
  rw [h1] at hx
  cases hx
  refine ⟨ts ++ [t], by rw [hw, List.map_append]; rfl, by simp [h2], fun i f hi => ?_⟩
  rw [List.getElem?_append] at hi
  split at hi
  · rename_i hl
    obtain ⟨u, e1, e2⟩ := h3 i f hi
    exact ⟨u, by rw [List.getElem?_append, if_pos (by omega)]; exact e1, ht _ _ e2⟩
  · rename_i hl
    have hlt := (List.getElem?_eq_some_iff.mp hi).1
    simp at hlt
    have ei : i - R.length = 0 := by omega
    rw [ei] at hi
    cases hi
    exact ⟨t, by rw [List.getElem?_append, if_neg (by omega), h2, ei]; rfl, et⟩
theorem WR.last {H : Hp} {wl : Addr} {R : List WE} {e : WE} (h : WR H wl (R ++ [e])) : ∃ (xs : List V) (t : Addr), H wl = some (.lst (xs ++ [.ref t])) ∧ xs.length = R.length ∧ EAt H t e ∧ ∀ H' : Hp, H' wl = some (.lst xs) → (∀ b ys, H b = some (.tup ys) → H' b = some (.tup ys)) → WR H' wl R := by
  obtain ⟨ts, h1, h2, h3⟩ := h
  obtain ⟨t, e1, e2⟩ := h3 R.length e (by simp)
  rcases ts.eq_nil_or_concat with rfl | ⟨ts', t', rfl⟩
  · simp at h2
  rw [List.concat_eq_append] at *
  have hl : ts'.length = R.length := by simp at h2; exact h2
  have : t' = t := by
    rw [List.getElem?_append_right (by omega), hl, Nat.sub_self] at e1
    exact Option.some.inj e1
  subst this
  refine ⟨ts'.map V.ref, t', by rw [h1, List.map_append]; rfl, by rw [List.length_map]; exact hl, e2, fun H' hw ht => ⟨ts', hw, hl, fun i f hi => ?_⟩⟩
  have hlt := (List.getElem?_eq_some_iff.mp hi).1
  obtain ⟨u, e3, e4⟩ := h3 i f (by rw [List.getElem?_append_left hlt]; exact hi)
  rw [List.getElem?_append_left (by omega)] at e3
  exact ⟨u, e3, ht _ _ e4⟩
theorem numT_pos {z : Str} (h : digOk z = true) {v : Int} (e : numT z = some v) : 0 ≤ v := by
  unfold numT at e
  split at e
  · rename_i hc
    unfold digOk at h
    rw [Bool.and_eq_true, hc, Bool.not_true, Bool.false_or] at h
    rw [e] at h
    exact of_decide_eq_true h.2
  · cases e
theorem opd_len {n : Nat} {L : Let} {ps : List Part} {z : Str} : (opd n L ps z).2.length ≤ ps.length + 1 ∧ ps <+: (opd n L ps z).2 := by
  unfold opd
  split
  · exact ⟨mk_len _ _, mk_pre _ _⟩
  · exact ⟨Nat.le_succ _, List.prefix_refl _⟩
theorem opd_lt {n : Nat} {L : Let} {ps : List Part} {z : Str} (h : (wordT n z).isSome = true ∨ (lookS L z).isSome = true) (hL : ∀ q ∈ L, q.2 < ps.length) : (opd n L ps z).1 < (opd n L ps z).2.length := by
  unfold opd
  split
  · exact mk_lt _ _
  · rename_i hw
    rw [hw] at h
    have h2 : (lookS L z).isSome = true := h.elim (fun e => by cases e) id
    cases hk : lookS L z with
    | none => rw [hk] at h2; cases h2
    | some k =>
      unfold lookS at hk
      cases hf : L.find? fun q => decide (q.1 = z) with
      | none => rw [hf] at hk; cases hk
      | some q =>
        rw [hf] at hk
        cases hk
        exact hL q (List.mem_of_find?_eq_some hf)
/-- the numbers on the stack stand in the pool -/
def StIn (S : List WE) (m : Nat) : Prop := ∀ e ∈ S, ∀ k, e.2 = some k → k < m
theorem StIn.more {S : List WE} {m m' : Nat} (h : StIn S m) (l : m ≤ m') : StIn S m' := fun e he k hk => Nat.lt_of_lt_of_le (h e he k hk) l
theorem good_tok {n : Nat} {L : Let} {z : Str} : ∀ t : Tm, t.good n L → z ∈ t.toks → opOf z = none → (wordT n z).isSome = true ∨ (lookS L z).isSome = true
  | .leaf y, h, hz, _ => by
    have : z = y := List.mem_singleton.mp hz
    rw [this]; exact h.2.2
  | .node o a b, h, hz, hn => by
    rw [toks_node] at hz
    rcases List.mem_cons.mp hz with e | hz
    · rw [e, opOf_s] at hn; cases hn
    · rcases List.mem_append.mp hz with hz | hz
      · exact good_tok a h.1 hz hn
      · exact good_tok b h.2 hz hn
theorem has_leaf : ∀ t : Tm, ∀ {n : Nat} {L : Let}, t.good n L → ∃ z ∈ t.toks, opOf z = none
  | .leaf y, _, _, h => ⟨y, List.mem_singleton.mpr rfl, h.1⟩
  | .node o a b, _, _, h => by
    obtain ⟨z, hz, hn⟩ := has_leaf a h.1
    exact ⟨z, by rw [toks_node]; simp [hz], hn⟩
theorem atLast (xs : List V) (x : V) : atI (xs ++ [x]) (-1) = some x := by
  have : ixN (xs ++ [x]).length (-1) = some xs.length := by
    unfold ixN
    rw [if_neg (by decide), if_pos (by rw [List.length_append, List.length_singleton]; omega)]
    congr 1
    rw [List.length_append, List.length_singleton]; omega
  unfold atI
  rw [this]
  simp
section
variable {P : Program} {w : World} {K : PySem.W.Frag} {mg : Str → Option Value} {base : Heap}
def sp_part_of_words (T : Txt K mg) : Sp := fun vs H Q E => ∃ (a l d D : Addr) (n : Nat) (ps : List Part) (L : Let) (v : V), vs = [.ref a, v, .ref D] ∧ PoolAt T.C H a l d n ps ∧ n ≤ 12 ∧ ps.length ≤ 3000 ∧ H D = some (.dK (dS L)) ∧ L.length ≤ 1000 ∧ (∀ q ∈ L, q.2 < ps.length) ∧
  ((plainV v = true ∧ BadW T H E (.int (-1))) ∨
   (∃ (q : Addr) (xs : List V) (i : Nat), v = .ref q ∧ Row H q xs ∧ (∀ x ∈ xs, TokOk x) ∧ xs.length ≤ 1000 ∧ chk n L xs 0 1 = some i ∧ BadW T H E (.int (i : Nat))) ∨
   ∃ (q : Addr) (t : Tm), v = .ref q ∧ Row H q (t.toks.map V.str) ∧ t.good n L ∧ (∀ z ∈ t.toks, digOk z = true) ∧ t.toks.length ≤ 400 ∧ Made T.C H a l d n (rdT n L t ps) Q)
theorem sp_part_of_words_len {T : Txt K mg} {vs H Q E} (h : sp_part_of_words T vs H Q E) : vs.length = 3 := by obtain ⟨_, _, _, _, _, _, _, _, rfl, _⟩ := h; rfl
theorem ok_part_of_words (T : Txt K mg) : FnOk P w K mg base (L2.CX P w) 7 T.f_part_of_words T.fd_part_of_words ["pool", "words", "letters"] (sp_part_of_words T) := by
  have G_p_apply := ok_p_apply (P := P) (w := w) (base := base) T; have G_check_tokens := ok_check_tokens (P := P) (w := w) (base := base) T; have G_operand := ok_operand (P := P) (w := w) (base := base) T; have G_BadWords_init := ok_BadWords_init (P := P) (w := w) (base := base) T
  refine T.F_part_of_words.okX sc_part_of_words (fun vs H Q E h => sp_part_of_words_len h) (fun cdv A outer s H vs Q E hr h => ?_)
  obtain ⟨a, l, d, D, n, ps, L, v, rfl, hp, n12, h30, hD, L1000, hLp, h⟩ := h
  obtain ⟨dx, ho⟩ := id hp.ob
  have sz : sizeLine = 16777216 := sizeLine_eq
  refine ⟨_, (pss_cons (ps_expr (pe_call G_check_tokens hr rfl T.g_check_tokens T.F_check_tokens.kp T.b_check_tokens .nil (passes_call (takes_of rfl rfl rfl rfl) (fun _ _ _ _ h => h)) (pa_cons (pv 0) (pa_cons (pv 1) (pa_cons (pv 2) pa_nil)))))
       (pss_cons (ps_set (i := 3) sc_part_of_words.nd rfl (Or.inl rfl) (pe_lst pa_nil))
       (pss_cons (ps_set (i := 4) sc_part_of_words.nd rfl (Or.inl rfl) pe_non)
       (pss_cons (ps_for (passes_of rfl) rfl (pi_seq (i := 1) rfl (Or.inl rfl)) (pg_name (i := 5) sc_part_of_words.nd rfl (Or.inl rfl))
        (pss_cons (ps_if (pt_cmpR op_in_seq (pv 5) (pe_glob (v := .ref T.a_OPS) rfl T.c_OPS rfl) (by rfl))
        (pss_cons (ps_expr (pe_bm PySem.F.plainAttrs_list PySem.F.slot_list_append PySem.F.type_list_append mt_append (pv 3) (pa_cons (pe_tup (pa_cons (pv 5) (pa_cons pe_non pa_nil))) pa_nil)))
       (pss_one ps_continue))
        pss_nil)
       (pss_cons (ps_set (i := 4) sc_part_of_words.nd rfl (Or.inl rfl) (pe_call G_operand hr rfl T.g_operand T.F_operand.kp T.b_operand .nil pass0 (pa_cons (pv 0) (pa_cons (pv 5) (pa_cons (pv 2) pa_nil)))))
       (pss_cons (ps_while (passes_of rfl) (PW.pt (pw_and (pt_truth (pv 3) (by intro _; rfl)) (pw_and1 (pt_cmpR op_notN (pe_ix ix_tup (pe_ix ix_list (pv 3) (pe_un un_neg pe_int) (fun _ _ => rfl)) pe_int (fun _ _ => rfl)) pe_non (nomark _)))))
        (pss_cons (ps_asg (pe_bm0 PySem.F.plainAttrs_list PySem.F.slot_list_pop PySem.F.type_list_pop mt_pop (pv 3)) (pg_tup rfl (pgs_cons (pg_name (i := 6) sc_part_of_words.nd rfl (Or.inl rfl)) (pgs_cons (pg_name (i := 7) sc_part_of_words.nd rfl (Or.inl rfl)) pgs_nil))))
       (pss_one (ps_set (i := 4) sc_part_of_words.nd rfl (Or.inl rfl) (pe_meth (pv 0) T.cl T.m_p_apply G_p_apply (hr.mono (by decide)) T.b_p_apply .nil (passes_call (takes_of rfl rfl rfl rfl) (fun _ _ _ _ h => h)) (pa_cons (pv 6) (pa_cons (pv 7) (pa_cons (pv 4) pa_nil))))))))
       (pss_one (ps_if (pt_truth (pv 3) (by intro _; rfl))
        (pss_cons (ps_asg (pe_bm0 PySem.F.plainAttrs_list PySem.F.slot_list_pop PySem.F.type_list_pop mt_pop (pv 3)) (pg_tup rfl (pgs_cons (pg_name (i := 6) sc_part_of_words.nd rfl (Or.inl rfl)) (pgs_cons (pg_name (i := 8) sc_part_of_words.nd rfl (Or.inl rfl)) pgs_nil))))
       (pss_one (ps_expr (pe_bm PySem.F.plainAttrs_list PySem.F.slot_list_append PySem.F.type_list_append mt_append (pv 3) (pa_cons (pe_tup (pa_cons (pv 6) (pa_cons (pv 4) pa_nil))) pa_nil)))))
        pss_nil))))))
       (pss_one (ps_ret (pv 4))))))), ?_⟩
  rcases h with ⟨hv, bad⟩ | ⟨q, xs, i, rfl, hq, hx, l1000, hc, bad⟩ | ⟨q, t, rfl, hq, hg, hdig, l400, k⟩
  · exact ⟨_, rfl, _, rfl, _, rfl, a, l, d, D, n, ps, L, v, rfl, hp, n12, hD, L1000, .inl ⟨hv, bad⟩⟩
  · exact ⟨_, rfl, _, rfl, _, rfl, a, l, d, D, n, ps, L, _, rfl, hp, n12, hD, L1000, .inr ⟨q, xs, rfl, hq, hx, l1000, fun e => (by rw [hc] at e; cases e), fun j e => by rw [hc] at e; cases e; exact bad⟩⟩
  have htok : ∀ x ∈ t.toks.map V.str, TokOk x := fun x hx => by
    obtain ⟨z, hz, rfl⟩ := List.mem_map.mp hx
    exact hdig z hz
  have hgood := chk_good hg
  refine ⟨_, rfl, _, rfl, _, rfl, a, l, d, D, n, ps, L, _, rfl, hp, n12, hD, L1000, .inr ⟨q, _, rfl, hq, htok, by rw [List.length_map]; omega, fun _ H1 s1 => ?_, fun j e => by rw [hgood] at e; cases e⟩⟩
  refine ⟨Nat.zero_le _, fun wl wl0 => ?_⟩
  have s2 := s1.trans (same_new (o := .lst []) wl0)
  have hwl : upd H1 wl (.lst []) wl = some (.lst []) := upd_same
  have wlN : H wl = none := s1.free wl0
  generalize upd H1 wl (.lst []) = H2 at s2 hwl ⊢
  obtain ⟨tsl, hll, _⟩ := id hp.lst
  have hdd := hp.dic
  have wll : wl ≠ l := fun z => by rw [z, hll] at wlN; cases wlN
  have wld : wl ≠ d := fun z => by rw [z, hdd] at wlN; cases wlN
  have Dl : D ≠ l := fun z => by rw [z, hll] at hD; cases hD
  have Dd : D ≠ d := fun z => by rw [z, hdd] at hD; cases hD
  have Dw : D ≠ wl := fun z => by rw [z, wlN] at hD; cases hD
  have ql : q ≠ l := fun z => by
    have tp := toks_pos t
    rcases hq with h | h
    · rw [z, hll] at h
      have e : tsl.map V.ref = t.toks.map V.str := HO.lst.inj (Option.some.inj h)
      cases ht : t.toks with
      | nil => rw [ht] at tp; simp at tp
      | cons x r =>
        rw [ht] at e
        cases tsl with
        | nil => simp at e
        | cons y r' => simp at e
    · rw [z, hll] at h; cases h
  have qd : q ≠ d := fun z => by rcases hq with h | h <;> (rw [z, hdd] at h; cases h)
  have qw : q ≠ wl := fun z => by rcases hq with h | h <;> (rw [z, wlN] at h; cases h)
  refine ⟨q, _, rfl, (hq.news s2), fun J G wk hG => ?_⟩
  have hlen : (t.toks.map V.str).length = t.toks.length := List.length_map _
  refine for_it wk (fun j σ H3 => ∃ (S : List WE) (p : Nat) (ps' : List Part) (v4 v5 v6 v7 v8 : Option V),
      mrun n L ([], 0, ps) (t.toks.take j) = (S, p, ps') ∧ PoolAt T.C H3 a l d n ps' ∧ WR H3 wl S.reverse ∧ ps'.length + S.length ≤ ps.length + 2 * j ∧ ps <+: ps' ∧ StIn S ps'.length ∧ (∀ b o, H b = some o → b ≠ l → b ≠ d → H3 b = some o) ∧ ((∃ z ∈ t.toks.take j, opOf z = none) → v4 = some (.int (p : Nat))) ∧ σ = [some (.ref a), some (.ref q), some (.ref D), some (.ref wl), v4, v5, v6, v7, v8])
    ⟨[], 0, ps, some .non, none, none, none, none, rfl, hp.news s2, ⟨[], hwl, rfl, fun i e h => by simp at h⟩, by simp, List.prefix_refl _, (fun e he => by cases he), fun b o e _ _ => s2 b o e, fun ⟨z, hz, _⟩ => by simp at hz, rfl⟩ ?_ ?_ ?_
  · rintro j σ H3 hj ⟨S, p, ps', v4, v5, v6, v7, v8, _, _, _, _, _, _, fr, _⟩
    refine hG _ ?_
    have e1 : H2 q = H q := hq.eq s2
    rw [e1]
    rcases hq with h | h
    · rw [h]; exact fr _ _ h ql qd
    · rw [h]; exact fr _ _ h ql qd
  · rintro j x σ H3 H4 hj ⟨S, p, ps', v4, v5, v6, v7, v8, hrun, hp3, hw3, hlen3, hpre, hst, fr, hv4, rfl⟩ ⟨rfl, hx⟩
    rw [hlen] at hj
    rw [List.getElem?_map] at hx
    obtain ⟨z, hz, rfl⟩ : ∃ z, t.toks[j]? = some z ∧ x = V.str z := by
      cases h : t.toks[j]? with
      | none => rw [h] at hx; cases hx
      | some z => rw [h] at hx; exact ⟨z, rfl, (Option.some.inj hx).symm⟩
    have hdz := hdig z (List.mem_of_getElem? hz)
    have etk : t.toks.take (j + 1) = t.toks.take j ++ [z] := by rw [List.take_succ, hz]; rfl
    have hio : (if false = true then !inV (.str z) opsV else inV (.str z) opsV) = (opOf z).isSome := by rw [if_neg (by decide), inV_ops]
    refine ⟨_, rfl, T.a_OPS, opsV, rfl, .inr (T.v_OPS _), rfl, rfl, _, rfl, ?_⟩
    have hrun2 := mrun_snoc n L ([], 0, ps) (t.toks.take j) z
    rw [← etk, hrun] at hrun2
    obtain ⟨tsw, hW, ewl, _⟩ := id hw3
    have hSl : S.length ≤ 4000 := by omega
    cases ho' : opOf z with
    | some o =>
      rw [ho'] at hio
      refine iteP hio ?_
      unfold mstep at hrun2
      rw [ho'] at hrun2
      dsimp only at hrun2
      have hzs := opOf_of ho'
      refine ⟨_, rfl, .inl ⟨rfl, _, SqL.of hW⟩, _, rfl, by show 2 ≤ sizeLine; decide, fun t2 t20 => ?_⟩
      have s4 := same_new (o := .tup [.str z, .non]) t20
      have ht2 : upd H4 t2 (.tup [.str z, .non]) t2 = some (.tup [.str z, .non]) := upd_same
      generalize upd H4 t2 (.tup [.str z, .non]) = H5 at s4 ht2 ⊢
      have hW5 := s4 _ _ hW
      refine ⟨wl, _, _, rfl, rfl, hW5, by rw [List.length_map, ewl, List.length_reverse]; omega, ?_⟩
      have tup6 : ∀ b ys, H4 b = some (.tup ys) → upd H5 wl (.lst (tsw.map V.ref ++ [.ref t2])) b = some (.tup ys) := fun b ys e => by
        have : b ≠ wl := fun z => by rw [z, hW] at e; cases e
        rw [upd_ne this]; exact s4 _ _ e
      refine ⟨(o, none) :: S, p, ps', v4, _, v6, v7, v8, hrun2, ?_, ?_, by rw [List.length_cons]; omega, hpre, fun e he k' hk' => ?_, fun b o' e h1 h2 => ?_, fun ⟨z', hz', hn'⟩ => hv4 ?_, rfl⟩
      · exact (hp3.news s4).but hW5 wll.symm fun b o' e hb => by rw [upd_ne hb]; exact e
      · rw [List.reverse_cons]
        refine WR.push (t := t2) hw3 hW tup6 upd_same ?_
        have : t2 ≠ wl := fun z => by rw [z, hW5] at ht2; cases ht2
        show upd H5 wl _ t2 = _
        rw [upd_ne this, ht2, hzs]; rfl
      · rcases List.mem_cons.mp he with rfl | he
        · cases hk'
        · exact hst e he k' hk'
      · have : b ≠ wl := fun z => by rw [z, wlN] at e; cases e
        rw [upd_ne this]; exact s4 _ _ (fr b o' e h1 h2)
      · rw [etk] at hz'
        rcases List.mem_append.mp hz' with h | h
        · exact ⟨z', h, hn'⟩
        · rw [List.mem_singleton.mp h, ho'] at hn'; cases hn'
    | none =>
      rw [ho'] at hio
      refine iteN (fun z => by rw [hio] at z; cases z) ?_
      unfold mstep at hrun2
      rw [ho'] at hrun2
      dsimp only at hrun2
      have hgz := good_tok t hg (List.mem_of_getElem? hz) ho'
      have hpl := hpre.length_le
      refine ⟨_, rfl, _, rfl, _, rfl, a, l, d, D, n, ps', L, z, rfl, hp3, by omega, n12, fr _ _ hD Dl Dd, hdz, hgz, fun v e => numT_pos hdz e, fun HA hpA fA => ?_⟩
      obtain ⟨O1, O2⟩ := opd_len (n := n) (L := L) (ps := ps') (z := z)
      have O3 := opd_lt (n := n) (ps := ps') hgz fun q' hq' => Nat.lt_of_lt_of_le (hLp q' hq') hpl
      generalize opd n L ps' z = O at *
      have tupA : ∀ b ys, H4 b = some (.tup ys) → HA b = some (.tup ys) := fun b ys e => by
        obtain ⟨_, e2, _⟩ := id hp3.lst
        exact fA _ _ e (ne_of e e2 (by intro z; cases z)) (ne_of e hp3.dic (by intro z; cases z))
      have hwA : WR HA wl S.reverse := hw3.keep (fun xs e => fA _ _ e wll wld) tupA
      have frA : ∀ b o, H b = some o → b ≠ l → b ≠ d → HA b = some o := fun b o e h1 h2 => fA _ _ (fr _ _ e h1 h2) h1 h2
      refine ⟨fun m σ H5 => ∃ (S1 : List WE) (p1 : Nat) (ps1 : List Part) (w6 w7 w8 : Option V), m = S1.length ∧ mrun n L ([], 0, ps) (t.toks.take (j + 1)) = comp n S1 p1 ps1 ∧ PoolAt T.C H5 a l d n ps1 ∧ WR H5 wl S1.reverse ∧ ps1.length + S1.length ≤ ps.length + 2 * j + 1 ∧ ps <+: ps1 ∧ StIn S1 ps1.length ∧ p1 < ps1.length ∧ (∀ b o, H b = some o → b ≠ l → b ≠ d → H5 b = some o) ∧ σ = [some (.ref a), some (.ref q), some (.ref D), some (.ref wl), some (.int (p1 : Nat)), some (.str z), w6, w7, w8],
        ⟨S.length, S, O.1, O.2, v6, v7, v8, rfl, hrun2, hpA, hwA, by omega, hpre.trans O2, hst.more O2.length_le, O3, frA, rfl⟩, ?_⟩
      rintro m σ H5 ⟨S1, p1, ps1, w6, w7, w8, rfl, hcomp, hp5, hw5, hlen5, hpre5, hst5, hp1, fr5, rfl⟩
      have fin : ∀ (H6 : Hp) (S2 : List WE) (u6 u7 u8 : Option V), mrun n L ([], 0, ps) (t.toks.take (j + 1)) = (S2, p1, ps1) → PoolAt T.C H6 a l d n ps1 → WR H6 wl S2.reverse → ps1.length + S2.length ≤ ps.length + 2 * j + 1 → StIn S2 ps1.length → (∀ b o, H b = some o → b ≠ l → b ≠ d → H6 b = some o) →
          ∃ (S : List WE) (p : Nat) (ps' : List Part) (v4 v5 v6 v7 v8 : Option V), mrun n L ([], 0, ps) (t.toks.take (j + 1)) = (S, p, ps') ∧ PoolAt T.C H6 a l d n ps' ∧ WR H6 wl S.reverse ∧ ps'.length + S.length ≤ ps.length + 2 * (j + 1) ∧ ps <+: ps' ∧ StIn S ps'.length ∧ (∀ b o, H b = some o → b ≠ l → b ≠ d → H6 b = some o) ∧ ((∃ z ∈ t.toks.take (j + 1), opOf z = none) → v4 = some (.int (p : Nat))) ∧ [some (V.ref a), some (.ref q), some (.ref D), some (.ref wl), some (.int (p1 : Nat)), some (.str z), u6, u7, u8] = [some (.ref a), some (.ref q), some (.ref D), some (.ref wl), v4, v5, v6, v7, v8] :=
        fun H6 S2 u6 u7 u8 h1 h2 h3 h4 h5 h6 => ⟨S2, p1, ps1, _, _, u6, u7, u8, h1, h2, h3, by omega, hpre5, h5, h6, fun _ => rfl, rfl⟩
      obtain ⟨tsx, hX, ex, _⟩ := id hw5
      have tup5 : ∀ (xs : List V) (o' : HO) (H6 : Hp), H6 = upd H5 wl o' → ∀ b ys, H5 b = some (.tup ys) → H6 b = some (.tup ys) := fun xs o' H6 e b ys h => by
        have : b ≠ wl := fun z => by rw [z, hX] at h; cases h
        rw [e, upd_ne this]; exact h
      rcases S1 with _ | ⟨⟨o, _ | k'⟩, S'⟩
      · have : tsx = [] := List.eq_nil_of_length_eq_zero ex
        subst this
        refine ⟨_, rfl, _, Or.inl ⟨_, SqL.of hX, rfl⟩, iteN (by decide) ?_⟩
        refine iteN (by decide) ?_
        refine ⟨_, rfl, _, Or.inl ⟨_, SqL.of hX, rfl⟩, iteN (by decide) ?_⟩
        rw [comp] at hcomp
        exact fin H5 [] w6 w7 w8 hcomp hp5 hw5 (by simpa using hlen5) (fun e he => by cases he) fr5
      · rw [List.reverse_cons] at hw5
        obtain ⟨xs, t2, hxl, hxn, hE, hpop⟩ := hw5.last
        refine ⟨_, rfl, _, Or.inl ⟨_, SqL.of hxl, rfl⟩, iteP (by simp) ?_⟩
        refine ⟨_, rfl, 1, rfl, wl, _, _, _, rfl, rfl, SqL.of hxl, atLast xs _, t2, _, _, _, rfl, rfl, SqT.of hE, rfl, rfl, _, rfl, iteN (by show ¬ (!decide (V.non = V.non)) = true; decide) ?_⟩
        refine ⟨_, rfl, _, Or.inl ⟨_, SqL.of hxl, rfl⟩, iteP (by simp) ?_⟩
        refine ⟨_, rfl, Or.inl ⟨rfl, _, SqL.of hxl⟩, wl, _, .ref t2, rfl, rfl, hxl, by simp, ?_⟩
        rw [List.dropLast_concat]
        have h6w : upd H5 wl (.lst xs) wl = some (.lst xs) := upd_same
        have tup6 := tup5 xs (.lst xs) (upd H5 wl (.lst xs)) rfl
        have hp6 : PoolAt T.C (upd H5 wl (.lst xs)) a l d n ps1 := hp5.but hxl wll.symm fun b o' e hb => by rw [upd_ne hb]; exact e
        have hw6 := hpop _ h6w tup6
        have fr6 : ∀ b o, H b = some o → b ≠ l → b ≠ d → upd H5 wl (.lst xs) b = some o := fun b o' e h1 h2 => by
          have : b ≠ wl := fun z => by rw [z, wlN] at e; cases e
          rw [upd_ne this]; exact fr5 b o' e h1 h2
        have hE6 := tup6 _ _ hE
        generalize upd H5 wl (.lst xs) = H6 at *
        refine ⟨t2, _, rfl, SqT.of hE6, rfl, _, _, rfl, _, _, rfl, rfl, ?_⟩
        refine ⟨_, rfl, .inl ⟨rfl, _, SqL.of h6w⟩, _, rfl, _, rfl, by show 2 ≤ sizeLine; decide, fun t3 t30 => ?_⟩
        have s7 := same_new (o := .tup [.str o.s, .int (p1 : Nat)]) t30
        have ht3 : upd H6 t3 (.tup [.str o.s, .int (p1 : Nat)]) t3 = some (.tup [.str o.s, .int (p1 : Nat)]) := upd_same
        have h7w := s7 _ _ h6w
        generalize hH7 : upd H6 t3 (.tup [.str o.s, .int (p1 : Nat)]) = H7 at s7 ht3 h7w
        refine ⟨wl, _, _, rfl, rfl, h7w, by rw [hxn, List.length_reverse]; simp at hlen5; omega, ?_⟩
        have t3w : t3 ≠ wl := fun z => by rw [z, h7w] at ht3; cases ht3
        have tup8 : ∀ b ys, H6 b = some (.tup ys) → upd H7 wl (.lst (xs ++ [.ref t3])) b = some (.tup ys) := fun b ys e => by
          have : b ≠ wl := fun z => by rw [z, h6w] at e; cases e
          rw [upd_ne this]; exact s7 _ _ e
        refine fin _ ((o, some p1) :: S') _ _ _ (by rw [hcomp, comp]) ((hp6.news s7).but h7w wll.symm fun b o' e hb => by rw [upd_ne hb]; exact e) ?_ (by simpa using hlen5) (fun e he k' hk' => ?_) fun b o' e h1 h2 => ?_
        · rw [List.reverse_cons]
          exact WR.push (t := t3) hw6 h6w tup8 upd_same (by show upd H7 wl _ t3 = _; rw [upd_ne t3w, ht3]; rfl)
        · rcases List.mem_cons.mp he with rfl | he
          · cases hk'; exact hp1
          · exact hst5 e (List.mem_cons_of_mem _ he) k' hk'
        · have : b ≠ wl := fun z => by rw [z, wlN] at e; cases e
          rw [upd_ne this]; exact s7 _ _ (fr6 b o' e h1 h2)
      · rw [List.reverse_cons] at hw5
        obtain ⟨xs, t2, hxl, hxn, hE, hpop⟩ := hw5.last
        refine ⟨_, rfl, _, Or.inl ⟨_, SqL.of hxl, rfl⟩, iteP (by simp) ?_⟩
        refine ⟨_, rfl, 1, rfl, wl, _, _, _, rfl, rfl, SqL.of hxl, atLast xs _, t2, _, _, _, rfl, rfl, SqT.of hE, rfl, rfl, _, rfl, iteP (by show (!decide (V.int (k' : Nat) = V.non)) = true; simp) ?_⟩
        have hk' : k' < ps1.length := hst5 _ (List.mem_cons_self) k' rfl
        have A1 := mApply_len n ps1 o k' p1
        have A2 := mApply_pre n ps1 o k' p1
        have A3 := mApply_lt (w := n) (o := o) hk' hp1
        refine ⟨fun σ' H' => ∃ (p2 : Nat) (ps2 : List Part) (w6 w7 w8 : Option V), mrun n L ([], 0, ps) (t.toks.take (j + 1)) = comp n S' p2 ps2 ∧ PoolAt T.C H' a l d n ps2 ∧ WR H' wl S'.reverse ∧ ps2.length + S'.length ≤ ps.length + 2 * j + 1 ∧ ps <+: ps2 ∧ StIn S' ps2.length ∧ p2 < ps2.length ∧ (∀ b o, H b = some o → b ≠ l → b ≠ d → H' b = some o) ∧ σ' = [some (.ref a), some (.ref q), some (.ref D), some (.ref wl), some (.int (p2 : Nat)), some (.str z), w6, w7, w8],
          fun σ' H' ⟨p2, ps2, w6, w7, w8, h1, h2, h3, h4, h5, h6, h7, h8, h9⟩ => ⟨S'.length, by simp, S', p2, ps2, w6, w7, w8, rfl, h1, h2, h3, h4, h5, h6, h7, h8, h9⟩, ?_⟩
        refine ⟨_, rfl, Or.inl ⟨rfl, _, SqL.of hxl⟩, wl, _, .ref t2, rfl, rfl, hxl, by simp, ?_⟩
        rw [List.dropLast_concat]
        have h6w : upd H5 wl (.lst xs) wl = some (.lst xs) := upd_same
        have tup6 := tup5 xs (.lst xs) (upd H5 wl (.lst xs)) rfl
        have hp6 : PoolAt T.C (upd H5 wl (.lst xs)) a l d n ps1 := hp5.but hxl wll.symm fun b o' e hb => by rw [upd_ne hb]; exact e
        have hw6 := hpop _ h6w tup6
        have fr6 : ∀ b o, H b = some o → b ≠ l → b ≠ d → upd H5 wl (.lst xs) b = some o := fun b o' e h1 h2 => by
          have : b ≠ wl := fun z => by rw [z, wlN] at e; cases e
          rw [upd_ne this]; exact fr5 b o' e h1 h2
        have hE6 := tup6 _ _ hE
        generalize upd H5 wl (.lst xs) = H6 at *
        refine ⟨t2, _, rfl, SqT.of hE6, rfl, _, _, rfl, _, _, rfl, rfl, ?_⟩
        obtain ⟨dx6, ho6⟩ := id hp6.ob
        simp only [List.length_cons] at hlen5
        refine ⟨_, rfl, a, dx6, _, rfl, ho6, no_meth (by decide +kernel), _, rfl, _, rfl, _, rfl, a, l, d, n, ps1, o, k', p1, rfl, hp6, by omega, n12, hk', hp1, Made.x (fun H7 hp7 f7 => ?_) (by omega)⟩
        rw [comp] at hcomp
        refine ⟨_, _, _, _, _, hcomp, hp7, hw6.keep (fun xs e => f7 _ _ e wll wld) (fun b ys e => ?_), by omega, hpre5.trans A2, fun e he k2 hk2 => Nat.lt_of_lt_of_le (hst5 e (List.mem_cons_of_mem _ he) k2 hk2) A2.length_le, A3, fun b o' e h1 h2 => f7 _ _ (fr6 _ _ e h1 h2) h1 h2, rfl⟩
        obtain ⟨_, e2, _⟩ := id hp6.lst
        exact f7 _ _ e (ne_of e e2 (by intro z; cases z)) (ne_of e hp6.dic (by intro z; cases z))
  · rintro σ H3 ⟨S, p, ps', v4, v5, v6, v7, v8, hrun, hp3, hw3, hlen3, hpre, hst, fr, hv4, rfl⟩
    rw [hlen, List.take_of_length_le (Nat.le_refl _)] at hrun hv4
    rw [mrun_all hg] at hrun
    cases hrun
    rw [hv4 (has_leaf t hg)]
    exact ⟨_, rfl, k H3 hp3 fr⟩
end
end My

/-! M3C -/
/-! parts as terms: the mathematics -/
namespace My
open PySem L2
def decS (v : Int) : Str := Str.ofString (toString v)
def gS (i : Int) : Str := "g" ++ decS i
def tmP : Nat → List Part → Nat → Tm
  | 0, _, _ => .leaf ""
  | f + 1, ps, k => match ps[k]? with
    | some (.num v) => .leaf (decS v)
    | some (.get i) => .leaf (gS i)
    | some (.op o a b) => .node o (tmP f ps a) (tmP f ps b)
    | none => .leaf ""
def tm (ps : List Part) (k : Nat) : Tm := tmP (k + 1) ps k
theorem tmP_fuel {ps : List Part} (wf : WF ps) : ∀ (f k : Nat), k < f → tmP f ps k = tmP (k + 1) ps k := by
  intro f
  induction f using Nat.strongRecOn with
  | _ f ih =>
    intro k hk
    obtain ⟨g, rfl⟩ : ∃ g, f = g + 1 := ⟨f - 1, by omega⟩
    cases e : ps[k]? with
    | none => rw [tmP, tmP, e]
    | some p =>
      cases p with
      | num v => rw [tmP, tmP, e]
      | get i => rw [tmP, tmP, e]
      | op o a b =>
        obtain ⟨ha, hb⟩ := wf k o a b e
        rw [tmP, tmP, e]
        dsimp only
        have fa : tmP g ps a = tmP k ps a := by
          rw [ih g (by omega) a (by omega)]
          by_cases h : k = g
          · rw [h, ih g (by omega) a (by omega)]
          · rw [ih k (by omega) a (by omega)]
        have fb : tmP g ps b = tmP k ps b := by
          rw [ih g (by omega) b (by omega)]
          by_cases h : k = g
          · rw [h, ih g (by omega) b (by omega)]
          · rw [ih k (by omega) b (by omega)]
        rw [fa, fb]
theorem tm_num {ps : List Part} {k : Nat} {v : Int} (e : ps[k]? = some (.num v)) : tm ps k = .leaf (decS v) := by unfold tm; rw [tmP, e]
theorem tm_get {ps : List Part} {k : Nat} {i : Int} (e : ps[k]? = some (.get i)) : tm ps k = .leaf (gS i) := by unfold tm; rw [tmP, e]
theorem tm_op {ps : List Part} (wf : WF ps) {k : Nat} {o : Op} {a b : Nat} (e : ps[k]? = some (.op o a b)) : tm ps k = .node o (tm ps a) (tm ps b) := by
  obtain ⟨ha, hb⟩ := wf k o a b e
  unfold tm
  rw [tmP, e]
  dsimp only
  rw [tmP_fuel wf k a ha, tmP_fuel wf k b hb]
def tkn (ps : List Part) (k : Nat) : List Str := (tm ps k).toks
/-- what the waiting parts are written as, the last one first -/
def flatW (ps : List Part) (W : List Nat) : List Str := (W.reverse.map (tkn ps)).flatten
theorem flatW_nil (ps : List Part) : flatW ps [] = [] := rfl
theorem flatW_leaf {ps : List Part} {W : List Nat} {k : Nat} {z : Str} (e : tm ps k = .leaf z) : flatW ps (W ++ [k]) = z :: flatW ps W := by
  unfold flatW tkn
  rw [List.reverse_append, List.map_append, List.flatten_append]
  show ((tm ps k).toks ++ []) ++ _ = _
  rw [e]; rfl
theorem flatW_op {ps : List Part} {W : List Nat} {k a b : Nat} {o : Op} (e : tm ps k = .node o (tm ps a) (tm ps b)) : flatW ps (W ++ [k]) = o.s :: flatW ps (W ++ [b, a]) := by
  unfold flatW tkn
  rw [List.reverse_append, List.map_append, List.flatten_append, List.reverse_append, List.map_append, List.flatten_append]
  show ((tm ps k).toks ++ []) ++ _ = o.s :: (((tm ps a).toks ++ ((tm ps b).toks ++ [])) ++ _)
  rw [e, toks_node, List.append_nil, List.append_nil]; rfl
theorem flatW_pos {ps : List Part} {W : List Nat} (h : W ≠ []) : 1 ≤ (flatW ps W).length := by
  rcases W.eq_nil_or_concat with rfl | ⟨W', k, rfl⟩
  · exact absurd rfl h
  rw [List.concat_eq_append]
  unfold flatW
  rw [List.reverse_append, List.map_append, List.flatten_append, List.length_append]
  have := toks_pos (tm ps k)
  show 1 ≤ ((tm ps k).toks ++ []).length + _
  rw [List.append_nil]; omega
theorem flatW_one (ps : List Part) (k : Nat) : flatW ps [k] = tkn ps k := by
  show (tm ps k).toks ++ [] = _
  rw [List.append_nil]; rfl
/-! ### reading a part's own text gives the part -/
structure SI (n : Nat) (ps : List Part) : Prop where
  nd : ps.Nodup
  op : ∀ (k : Nat) (o : Op) (a b : Nat), ps[k]? = some (.op o a b) → mApply n ps o a b = (k, ps)
theorem mk_have {ps : List Part} (nd : ps.Nodup) {k : Nat} {p : Part} (e : ps[k]? = some p) : mk ps p = (k, ps) := by
  have hm : p ∈ ps := List.mem_of_getElem? e
  unfold mk
  rw [if_pos hm]
  have hk := (List.getElem?_eq_some_iff.mp e).1
  have h1 := idxOf_le e
  have h2 : ps.idxOf p < ps.length := List.idxOf_lt_length_of_mem hm
  have h3 : ps[ps.idxOf p] = p := List.getElem_idxOf h2
  have h4 : ps[k] = p := (List.getElem?_eq_some_iff.mp e).2
  have : ps.idxOf p = k := by
    have pw := List.pairwise_iff_getElem.mp nd
    rcases Nat.lt_trichotomy (ps.idxOf p) k with hl | hl | hl
    · exact absurd (h3.trans h4.symm) (pw _ _ h2 hk hl)
    · exact hl
    · exact absurd (h4.trans h3.symm) (pw _ _ hk h2 hl)
  rw [this]
theorem si_nil (n : Nat) : SI n [] := ⟨List.nodup_nil, fun _ _ _ _ e => by simp at e⟩
theorem SI.grow {n : Nat} {ps : List Part} (h : SI n ps) (wf : WF ps) {p : Part} (hp : p ∉ ps) (hn : ∀ o a b, p = .op o a b → mApply n (ps ++ [p]) o a b = (ps.length, ps ++ [p])) : SI n (ps ++ [p]) := by
  refine ⟨?_, fun k o a b e => ?_⟩
  · rw [List.nodup_append]
    refine ⟨h.nd, by simp, fun a ha b hb => ?_⟩
    rw [List.mem_singleton.mp hb]
    intro z; rw [z] at ha; exact hp ha
  · rcases snoc_at e with e' | ⟨rfl, e'⟩
    · have hk := (List.getElem?_eq_some_iff.mp e').1
      obtain ⟨ha, hb⟩ := wf k o a b e'
      have r := h.op k o a b e'
      have := mApply_again (m := n) (o := o) (show a < ps.length by omega) (show b < ps.length by omega) (F := ps ++ [p]) (by rw [r]; exact List.prefix_append _ _)
      rw [this, r]
    · exact hn o a b e'.symm
theorem SI.made {n : Nat} {ps : List Part} (h : SI n ps) (wf : WF ps) {p : Part} (hp : ∀ o a b, p ≠ .op o a b) : SI n (My.mk ps p).2 := by
  unfold My.mk
  split
  · exact h
  · rename_i hm
    exact h.grow wf hm fun o a b e => absurd e (hp o a b)
theorem mApply_swap {n : Nat} {ps : List Part} {o : Op} {a b : Nat} (he : either o = true) (hab : b < a) (hw : ¬ ((wordOf ps a).isSome = true ∧ (wordOf ps b).isSome = true)) : mApply n ps o a b = mApply n ps o b a := by
  unfold mApply
  cases ea : wordOf ps a with
  | none =>
    cases eb : wordOf ps b with
    | none => dsimp only; rw [if_pos ⟨he, hab⟩, if_neg (fun z => by omega)]
    | some y => dsimp only; rw [if_pos ⟨he, hab⟩, if_neg (fun z => by omega)]
  | some x =>
    cases eb : wordOf ps b with
    | none => dsimp only; rw [if_pos ⟨he, hab⟩, if_neg (fun z => by omega)]
    | some y => exact absurd ⟨by rw [ea]; rfl, by rw [eb]; rfl⟩ hw
theorem SI.fin {n : Nat} {ps : List Part} (h : SI n ps) (wf : WF ps) {o : Op} {a b : Nat} {s : Sh} (hn : s = .no → .op o a b ∉ ps → mApply n (ps ++ [.op o a b]) o a b = (ps.length, ps ++ [.op o a b])) : SI n (fin ps o a b s).2 := by
  cases s with
  | one => exact h
  | other => exact h
  | zero => exact h.made wf fun _ _ _ e => by cases e
  | unit => exact h.made wf fun _ _ _ e => by cases e
  | no =>
    show SI n (My.mk ps (.op o a b)).2
    unfold My.mk
    split
    · exact h
    · rename_i hm
      exact h.grow wf hm fun o' a' b' e => by cases e; exact hn rfl hm
theorem SI.mApply {n : Nat} {ps : List Part} (h : SI n ps) (wf : WF ps) {o : Op} {a b : Nat} (ha : a < ps.length) (hb : b < ps.length) : SI n (mApply n ps o a b).2 := by
  have ag := fun F => mApply_again (m := n) (st := ps) (F := F) (o := o) ha hb
  unfold My.mApply at ag ⊢
  split
  · exact h.made wf fun _ _ _ e => by cases e
  · rename_i hno
    have hw : ¬ ((wordOf ps a).isSome = true ∧ (wordOf ps b).isSome = true) := fun ⟨h1, h2⟩ => by
      cases ea : wordOf ps a with
      | none => rw [ea] at h1; cases h1
      | some x =>
        cases eb : wordOf ps b with
        | none => rw [eb] at h2; cases h2
        | some y => exact hno x y ea eb
    have agn := ag
    split
    · rename_i hc
      refine h.fin wf fun hs hm => ?_
      have hF : ps <+: ps ++ [Part.op o b a] := List.prefix_append _ _
      have e1 := wordOf_pre hF ha
      have e2 := wordOf_pre hF hb
      have sw := mApply_swap (n := n) (ps := ps ++ [Part.op o b a]) hc.1 hc.2 (by rw [e1, e2]; exact hw)
      rw [← sw]
      have r : My.mApply n ps o a b = (ps.length, ps ++ [.op o b a]) := by
        unfold My.mApply
        split
        · rename_i x y ea eb; exact absurd ⟨by rw [ea]; rfl, by rw [eb]; rfl⟩ hw
        · rw [if_pos hc, hs]
          show My.mk ps _ = _
          unfold My.mk
          rw [if_neg hm]
      have := mApply_again (m := n) (o := o) ha hb (F := ps ++ [.op o b a]) (by rw [r]; exact List.prefix_refl _)
      rw [this, r]
    · rename_i hc
      refine h.fin wf fun hs hm => ?_
      have r : My.mApply n ps o a b = (ps.length, ps ++ [.op o a b]) := by
        unfold My.mApply
        split
        · rename_i x y ea eb; exact absurd ⟨by rw [ea]; rfl, by rw [eb]; rfl⟩ hw
        · rw [if_neg hc, hs]
          show My.mk ps _ = _
          unfold My.mk
          rw [if_neg hm]
      have := mApply_again (m := n) (o := o) ha hb (F := ps ++ [.op o a b]) (by rw [r]; exact List.prefix_refl _)
      rw [this, r]
/-- the words of a pool's own leaves -/
structure Lv (n : Nat) (L : Let) (ps : List Part) : Prop where
  num : ∀ (k : Nat) (v : Int), ps[k]? = some (.num v) → opOf (decS v) = none ∧ digOk (decS v) = true ∧ wordT n (decS v) = some v
  get : ∀ (k : Nat) (i : Int), ps[k]? = some (.get i) → opOf (gS i) = none ∧ digOk (gS i) = true ∧ wordT n (gS i) = none ∧ lookS L (gS i) = some k
theorem tm_good {n : Nat} {L : Let} {ps : List Part} (wf : WF ps) (hl : Lv n L ps) : ∀ k, k < ps.length → (tm ps k).good n L ∧ ∀ z ∈ (tm ps k).toks, digOk z = true := by
  intro k
  induction k using Nat.strongRecOn with
  | _ k ih =>
    intro hk
    obtain ⟨p, e⟩ : ∃ p, ps[k]? = some p := ⟨_, List.getElem?_eq_getElem hk⟩
    cases p with
    | num v =>
      obtain ⟨h1, h2, h3⟩ := hl.num k v e
      rw [tm_num e]
      exact ⟨⟨h1, h2, .inl (by rw [h3]; rfl)⟩, fun z hz => by rw [List.mem_singleton.mp hz]; exact h2⟩
    | get i =>
      obtain ⟨h1, h2, h3, h4⟩ := hl.get k i e
      rw [tm_get e]
      exact ⟨⟨h1, h2, .inr (by rw [h4]; rfl)⟩, fun z hz => by rw [List.mem_singleton.mp hz]; exact h2⟩
    | op o a b =>
      obtain ⟨ha, hb⟩ := wf k o a b e
      rw [tm_op wf e]
      have A := ih a ha (by omega)
      have B := ih b hb (by omega)
      refine ⟨⟨A.1, B.1⟩, fun z hz => ?_⟩
      rw [toks_node] at hz
      rcases List.mem_cons.mp hz with e' | hz
      · rw [e']; cases o <;> decide +kernel
      · rcases List.mem_append.mp hz with hz | hz
        · exact A.2 z hz
        · exact B.2 z hz
theorem rd_own {n : Nat} {L : Let} {ps : List Part} (wf : WF ps) (hs : SI n ps) (hl : Lv n L ps) : ∀ k, k < ps.length → rdT n L (tm ps k) ps = (k, ps) := by
  intro k
  induction k using Nat.strongRecOn with
  | _ k ih =>
    intro hk
    obtain ⟨p, e⟩ : ∃ p, ps[k]? = some p := ⟨_, List.getElem?_eq_getElem hk⟩
    cases p with
    | num v =>
      obtain ⟨_, _, h3⟩ := hl.num k v e
      rw [tm_num e]
      show opd n L ps (decS v) = _
      unfold opd
      rw [h3]
      exact mk_have hs.nd e
    | get i =>
      obtain ⟨_, _, h3, h4⟩ := hl.get k i e
      rw [tm_get e]
      show opd n L ps (gS i) = _
      unfold opd
      rw [h3, h4]; rfl
    | op o a b =>
      obtain ⟨ha, hb⟩ := wf k o a b e
      rw [tm_op wf e]
      show mApply n (rdT n L (tm ps b) (rdT n L (tm ps a) ps).2).2 o (rdT n L (tm ps a) ps).1 (rdT n L (tm ps b) (rdT n L (tm ps a) ps).2).1 = _
      rw [ih a ha (by omega), ih b hb (by omega)]
      exact hs.op k o a b e
/-! ### the law's own reading: a stack of numbers, the last one first -/
def red (n : Nat) : List (Op × Nat) → List Nat → List Part → List (Op × Nat) × List Nat × List Part
  | [], St, ps => ([], St, ps)
  | (o, dp) :: Wt, y :: x :: St, ps => if dp + 2 = St.length + 2 then red n Wt ((mApply n ps o x y).1 :: St) (mApply n ps o x y).2 else ((o, dp) :: Wt, y :: x :: St, ps)
  | (o, dp) :: Wt, St, ps => ((o, dp) :: Wt, St, ps)
def rstep (n : Nat) (L : Let) (st : List (Op × Nat) × List Nat × List Part) (z : Str) : List (Op × Nat) × List Nat × List Part := match opOf z with
  | some o => ((o, st.2.1.length) :: st.1, st.2.1, st.2.2)
  | none => red n st.1 ((opd n L st.2.2 z).1 :: st.2.1) (opd n L st.2.2 z).2
def rrun (n : Nat) (L : Let) (st : List (Op × Nat) × List Nat × List Part) (zs : List Str) : List (Op × Nat) × List Nat × List Part := zs.foldl (rstep n L) st
theorem rrun_snoc (n : Nat) (L : Let) (st : List (Op × Nat) × List Nat × List Part) (zs : List Str) (z : Str) : rrun n L st (zs ++ [z]) = rstep n L (rrun n L st zs) z := by unfold rrun; rw [List.foldl_append]; rfl
theorem rrun_term {n : Nat} {L : Let} : ∀ (t : Tm) (Wt : List (Op × Nat)) (St : List Nat) (ps : List Part), t.good n L → rrun n L (Wt, St, ps) t.toks = red n Wt ((rdT n L t ps).1 :: St) (rdT n L t ps).2
  | .leaf z, Wt, St, ps, h => by
    show rstep n L (Wt, St, ps) z = _
    unfold rstep
    rw [h.1]; rfl
  | .node o a b, Wt, St, ps, h => by
    unfold rrun
    rw [toks_node, List.foldl_cons, List.foldl_append]
    have e : rstep n L (Wt, St, ps) o.s = ((o, St.length) :: Wt, St, ps) := by unfold rstep; rw [opOf_s]
    rw [e]
    have ha := rrun_term a ((o, St.length) :: Wt) St ps h.1
    unfold rrun at ha
    rw [ha]
    have e2 : red n ((o, St.length) :: Wt) ((rdT n L a ps).1 :: St) (rdT n L a ps).2 = ((o, St.length) :: Wt, (rdT n L a ps).1 :: St, (rdT n L a ps).2) := by
      cases St with
      | nil => rfl
      | cons x r => rw [red, if_neg (by rw [List.length_cons]; omega)]
    rw [e2]
    have hb := rrun_term b ((o, St.length) :: Wt) ((rdT n L a ps).1 :: St) (rdT n L a ps).2 h.2
    unfold rrun at hb
    rw [hb, red, if_pos rfl]; rfl
end My

/-! PE -/
namespace My
open PySem L2
local macro_rules | `(tactic| walk_at "side") => `(tactic| first | with_reducible rfl | assumption | rfl | decide | omega | exact cpow1 (by omega) (by omega) | exact cdiv (by omega) (by omega) | exact two_pos _ | exact SqL.of (by assumption) | exact SqT.of (by assumption) | exact TyX.base (TyOf.int _) | exact TyX.base (TyOf.bl _) | exact TyX.base TyOf.non | exact scal_opt _ _ | exact k_ii | exact k_bi | exact k_ni | exact k_ib | exact k_bb | exact TyX.base (TyOf.lst (by assumption)) | exact k_ll | exact k_lt)
local macro_rules | `(tactic| walk_at "p") => `(tactic| repeat (first | refine And.intro (by walk_at "side") ?_ | apply Exists.intro | refine iteN (by assumption) ?_ | refine iteP (by assumption) ?_ | refine iteN (by decide) ?_ | refine iteP (by decide) ?_))

/-- small numbers only -/
structure Sm (ps : List Part) : Prop where
  num : ∀ (k : Nat) (v : Int), ps[k]? = some (.num v) → 0 ≤ v ∧ v < 64
  get : ∀ (k : Nat) (i : Int), ps[k]? = some (.get i) → 0 ≤ i ∧ i < 64
theorem small_all : ∀ v : Fin 64, (decS (v.val : Int)).length ≤ 3 ∧ (gS (v.val : Int)).length ≤ 4 := by decide +kernel
theorem small_dec {v : Int} (h0 : 0 ≤ v) (h1 : v < 64) : (decS v).length ≤ 3 ∧ (gS v).length ≤ 4 := by
  obtain ⟨i, rfl⟩ := Int.eq_ofNat_of_zero_le h0
  exact small_all ⟨i, by omega⟩
theorem log_small {v : Int} (h0 : 0 ≤ v) (h1 : v < 64) : v.natAbs.log2 < 1920 := by
  obtain ⟨i, rfl⟩ := Int.eq_ofNat_of_zero_le h0
  have : i < 64 := by omega
  rw [Int.natAbs_natCast]
  by_cases h : i = 0
  · rw [h]; decide
  have := (Nat.log2_lt h (k := 7)).mpr (by omega)
  omega
theorem tok_len {ps : List Part} (wf : WF ps) (sm : Sm ps) : ∀ k, ∀ z ∈ tkn ps k, z.length ≤ 4 := by
  intro k
  induction k using Nat.strongRecOn with
  | _ k ih =>
    intro z hz
    unfold tkn at *
    cases e : ps[k]? with
    | none =>
      have : tm ps k = .leaf "" := by unfold tm; rw [tmP, e]
      rw [this] at hz
      rw [List.mem_singleton.mp hz]; decide
    | some p =>
      cases p with
      | num v =>
        rw [tm_num e] at hz
        rw [List.mem_singleton.mp hz]
        have := (small_dec (sm.num _ _ e).1 (sm.num _ _ e).2).1
        omega
      | get i =>
        rw [tm_get e] at hz
        rw [List.mem_singleton.mp hz]
        exact (small_dec (sm.get _ _ e).1 (sm.get _ _ e).2).2
      | op o a b =>
        obtain ⟨ha, hb⟩ := wf k o a b e
        rw [tm_op wf e, toks_node] at hz
        rcases List.mem_cons.mp hz with e' | hz
        · rw [e']; cases o <;> decide +kernel
        · rcases List.mem_append.mp hz with hz | hz
          · exact ih a ha z hz
          · exact ih b hb z hz
theorem tkn_len_op {ps : List Part} (wf : WF ps) {k : Nat} {o : Op} {a b : Nat} (e : ps[k]? = some (.op o a b)) : (tkn ps k).length = 1 + (tkn ps a).length + (tkn ps b).length := by
  unfold tkn
  rw [tm_op wf e, toks_node, List.length_cons, List.length_append]; omega
section
variable {P : Program} {w : World} {K : PySem.W.Frag} {mg : Str → Option Value} {base : Heap}
def sp_size (T : Txt K mg) : Sp := fun vs H Q _ => ∃ (a l d : Addr) (n : Nat) (ps : List Part) (k : Nat), vs = [.ref a, .int k] ∧ PoolAt T.C H a l d n ps ∧ WF ps ∧ ps.length ≤ 4000 ∧ k < ps.length ∧ ∀ H', Same H H' → Q (.int ((tkn ps k).length : Nat)) H'
theorem sp_size_len {T : Txt K mg} {vs H Q E} (h : sp_size T vs H Q E) : vs.length = 2 := by obtain ⟨_, _, _, _, _, _, rfl, _⟩ := h; rfl
theorem ok_size (T : Txt K mg) : FnOk P w K mg base CX0 6 T.f_size T.fd_size ["pool", "part"] (sp_size T) := by
  have G_p_part := ok_p_part (P := P) (w := w) (base := base) T; have G_p_reached := ok_p_reached (P := P) (w := w) (base := base) T
  refine T.F_size.ok sc_size (fun vs H Q E h => sp_size_len h) (fun cdv A outer s H vs Q E hr h => ?_)
  obtain ⟨a, l, d, n, ps, i, rfl, hp, wf, h40, hi, k⟩ := h
  obtain ⟨dx, ho⟩ := id hp.ob
  obtain ⟨xs, hL, ex, hit⟩ := hp.lst.item
  have sz : sizeLine = 16777216 := sizeLine_eq
  refine ⟨_, (pss_cons (ps_set (i := 2) sc_size.nd rfl (Or.inl rfl) pe_dnewK)
       (pss_cons (ps_for PassesOwn.never rfl (pi_tup (pe_meth (pv 0) T.cl T.m_p_reached G_p_reached hr T.b_p_reached .nil passL (pa_cons (pv 1) pa_nil))) (pg_name (i := 3) sc_size.nd rfl (Or.inl rfl))
        (pss_cons (ps_set (i := 4) sc_size.nd rfl (Or.inl rfl) (pe_meth (pv 0) T.cl T.m_p_part G_p_part (hr.mono (by decide)) T.b_p_part .nil passL (pa_cons (pv 3) pa_nil)))
       (pss_one (ps_if (pt_cmpR op_eq (pe_callB call_lenT (by rfl) T.n_len (by decide +kernel) (pa_cons (pv 4) pa_nil)) pe_int (nomark _))
        (pss_one (ps_dput (hu_of hr) (pv 2) (pv 3) (pe_op op_add (pe_op op_add pe_int (pe_dget (hu_of hr) (pv 2) (pe_ix ix_tup (pv 4) pe_int (fun _ _ => rfl)) (fun _ _ => rfl))) (pe_dget (hu_of hr) (pv 2) (pe_ix ix_tup (pv 4) pe_int (fun _ _ => rfl)) (fun _ _ => rfl))) rfl))
        (pss_one (ps_dput (hu_of hr) (pv 2) (pv 3) pe_int rfl))))))
       (pss_one (ps_ret (pe_dget (hu_of hr) (pv 2) (pv 1) (fun _ _ => rfl)))))), ?_⟩
  intro D hD
  have s0 := same_new (o := .dK []) hD
  have hD0 : upd H D (.dK []) D = some (.dK []) := upd_same
  generalize upd H D (.dK []) = H0 at s0 hD0 ⊢
  refine ⟨_, rfl, a, dx, _, rfl, s0 _ _ ho, no_meth (by decide +kernel), _, rfl, a, l, d, n, ps, _, rfl, hp.news s0, rfl, wf, h40, fun i' ei _ t H1 ks hr s1 ht ht1 => ?_, fun z => absurd (good_of hi) z⟩
  have ei' : i = i' := by injection ei with ei; omega
  subst ei'
  have ksl : ks.length ≤ ps.length := nodup_lt (hr.asc.imp fun h => Nat.ne_of_lt h) fun k hk => by have := ((hr.mem k).mp hk).le wf; omega
  have s01 := s0.trans s1
  have tD : t ≠ D := fun e => by rw [e, hD0] at ht; cases ht
  refine ⟨t, rfl, ⟨_, SqT.of ht1⟩, ?_⟩
  refine for_tup (K := K) (a := t) (xs := natL ks) (fun j σ' H5 => ∃ v3 v4 : Option V, σ' = [some (.ref a), some (.int (i : Nat)), some (.ref D), v3, v4] ∧ Same H H5 ∧
    H5 t = some (.tup (natL ks)) ∧ H5 D = some (.dK (dv (fun z => ((tkn ps z).length : Nat)) (ks.take j)))) ⟨none, none, rfl, s01, ht1, s1 _ _ hD0⟩ ?_ ?_ ?_
  · rintro j σ' H5 _ ⟨_, _, _, _, h, _⟩
    exact SqT.of h
  · rintro j y σ' H5 hj ⟨v3, v4, rfl, s5, hT5, hD5⟩
    obtain ⟨k', hkj, rfl⟩ := natL_get hj
    have hk0 := List.mem_of_getElem? hkj
    have hkr := (hr.mem k').mp hk0
    have hkn : k' < ps.length := by have := hkr.le wf; omega
    obtain ⟨p, hpk⟩ : ∃ p, ps[k']? = some p := ⟨_, List.getElem?_eq_getElem hkn⟩
    have hz : (dv (fun z => ((tkn ps z).length : Nat)) (ks.take j)).length < sizeLine := by rw [dv_len, List.length_take]; omega
    refine ⟨_, rfl, a, dx, _, rfl, s5 _ _ ho, no_meth (by decide +kernel), _, rfl, a, l, d, n, ps, k', p, rfl, hp.news s5, hpk, fun t7 hT7 => ?_⟩
    have close : ∀ v : Int, v = ((tkn ps k').length : Nat) → Same H (upd H5 D (.dK (putK (dv (fun z => ((tkn ps z).length : Nat)) (ks.take j)) (Sum.inl ((k' : Nat) : Int)) (.int v)))) ∧
        upd H5 D (.dK (putK (dv (fun z => ((tkn ps z).length : Nat)) (ks.take j)) (Sum.inl ((k' : Nat) : Int)) (.int v))) t = some (.tup (natL ks)) ∧
        upd H5 D (.dK (putK (dv (fun z => ((tkn ps z).length : Nat)) (ks.take j)) (Sum.inl ((k' : Nat) : Int)) (.int v))) D = some (.dK (dv (fun z => ((tkn ps z).length : Nat)) (ks.take (j + 1)))) := by
      intro v e
      subst e
      refine ⟨fun b o e => ?_, ?_, ?_⟩
      · rw [upd_ne (ne_of_none e hD)]; exact s5 _ _ e
      · rw [upd_ne tD]; exact hT5
      · rw [upd_same, take_snoc hkj]; congr 2; exact dv_put (f := fun z => (((tkn ps z).length : Nat) : Int)) (not_in_take hr.asc hkj)
    have getf : ∀ z, z ∈ ks.take j → DGet H5 D (.int (z : Nat)) (some (.int ((tkn ps z).length : Nat))) := fun z hz => by
      have dg := DGet.k (k := Sum.inl ((z : Nat) : Int)) hD5
      rw [valV_dv, if_pos hz] at dg
      exact dg
    cases p with
    | num v =>
      refine ⟨_, rfl, t7, _, rfl, SqT.of hT7, rfl, _, rfl, iteN (show ¬ decide (V.int ((2 : Nat) : Int) = V.int 3) = true by decide) ?_⟩
      refine ⟨_, rfl, _, rfl, D, _, rfl, DPut.k (k := Sum.inl ((k' : Nat) : Int)) hD5 hz, _, _, rfl, close 1 ?_⟩
      unfold tkn; rw [tm_num hpk]; rfl
    | get g =>
      refine ⟨_, rfl, t7, _, rfl, SqT.of hT7, rfl, _, rfl, iteN (show ¬ decide (V.int ((2 : Nat) : Int) = V.int 3) = true by decide) ?_⟩
      refine ⟨_, rfl, _, rfl, D, _, rfl, DPut.k (k := Sum.inl ((k' : Nat) : Int)) hD5 hz, _, _, rfl, close 1 ?_⟩
      unfold tkn; rw [tm_get hpk]; rfl
    | op o x y =>
      have wfp := wf _ _ _ _ hpk
      have hx' := asc_take hr.asc hkj ((hr.mem x).mpr (.left hkr hpk)) wfp.1
      have hy' := asc_take hr.asc hkj ((hr.mem y).mpr (.right hkr hpk)) wfp.2
      refine ⟨_, rfl, t7, _, rfl, SqT.of hT7, rfl, _, rfl, iteP rfl ?_⟩
      refine ⟨_, rfl, _, rfl, t7, _, 1, .int (x : Nat), rfl, rfl, SqT.of hT7, rfl, D, _, rfl, getf x hx', _, _, rfl, rfl, ?_⟩
      refine ⟨_, rfl, _, rfl, t7, _, 2, .int (y : Nat), rfl, rfl, SqT.of hT7, rfl, D, _, rfl, getf y hy', _, _, rfl, rfl, ?_⟩
      refine ⟨_, rfl, _, rfl, D, _, rfl, DPut.k (k := Sum.inl ((k' : Nat) : Int)) hD5 hz, _, _, rfl, close _ ?_⟩
      rw [tkn_len_op wf hpk]; push_cast; rfl
  · rintro σ' H5 ⟨v3, v4, rfl, s5, hT5, hD5⟩
    rw [natL_len, List.take_length] at hD5
    have dg := DGet.k (k := Sum.inl ((i : Nat) : Int)) hD5
    rw [valV_dv, if_pos ((hr.mem i).mpr .self)] at dg
    exact ⟨_, rfl, _, rfl, D, _, rfl, dg, k H5 s5⟩
end
end My

/-! PF -/
namespace My
open PySem L2
local macro_rules | `(tactic| walk_at "side") => `(tactic| first | with_reducible rfl | assumption | rfl | decide | omega | exact cpow1 (by omega) (by omega) | exact cdiv (by omega) (by omega) | exact two_pos _ | exact SqL.of (by assumption) | exact SqT.of (by assumption) | exact TyX.base (TyOf.int _) | exact TyX.base (TyOf.bl _) | exact TyX.base TyOf.non | exact scal_opt _ _ | exact k_ii | exact k_bi | exact k_ni | exact k_ib | exact k_bb | exact TyX.base (TyOf.lst (by assumption)) | exact k_ll | exact k_lt)
local macro_rules | `(tactic| walk_at "p") => `(tactic| repeat (first | refine And.intro (by walk_at "side") ?_ | apply Exists.intro | refine iteN (by assumption) ?_ | refine iteP (by assumption) ?_ | refine iteN (by decide) ?_ | refine iteP (by decide) ?_))

theorem natL_snoc' (W : List Nat) (k : Nat) : natL (W ++ [k]) = natL W ++ [.int (k : Nat)] := by unfold natL; rw [List.map_append]; rfl
theorem sum_len {ys : List Str} (h : ∀ z ∈ ys, z.length ≤ 4) : (ys.map (·.length)).sum ≤ ys.length * 4 := by
  induction ys with
  | nil => simp
  | cons y r ih =>
    have := ih fun z hz => h z (by simp [hz])
    have := h y (by simp)
    rw [List.map_cons, List.sum_cons, List.length_cons, Nat.succ_mul]; omega
section
variable {P : Program} {w : World} {K : PySem.W.Frag} {mg : Str → Option Value} {base : Heap}
def BadT (T : Txt K mg) (H : Hp) (E : XK) (v : V) : Prop := ∀ (H' : Hp) (e : Addr), Same H H' → H' e = none → E (.ref T.C_TooMany) (some e) (upd H' e (.xd [("name", v)]))
def sp_part_text (T : Txt K mg) : Sp := fun vs H Q E => ∃ (a l d : Addr) (n : Nat) (ps : List Part) (k : Nat), vs = [.ref a, .int k] ∧ PoolAt T.C H a l d n ps ∧ WF ps ∧ Sm ps ∧ ps.length ≤ 4000 ∧ k < ps.length ∧
  ((tkn ps k).length ≤ 400 → ∀ H', Same H H' → Q (.str (Txt.join " " (tkn ps k))) H') ∧ (400 < (tkn ps k).length → BadT T H E (.str "words"))
theorem sp_part_text_len {T : Txt K mg} {vs H Q E} (h : sp_part_text T vs H Q E) : vs.length = 2 := by obtain ⟨_, _, _, _, _, _, rfl, _⟩ := h; rfl
theorem ok_part_text (T : Txt K mg) : FnOk P w K mg base (L2.CX P w) 7 T.f_part_text T.fd_part_text ["pool", "part"] (sp_part_text T) := by
  have G_p_part := ok_p_part (P := P) (w := w) (base := base) T; have G_size := ok_size (P := P) (w := w) (base := base) T; have G_TooMany_init := ok_TooMany_init (P := P) (w := w) (base := base) T
  refine T.F_part_text.okX sc_part_text (fun vs H Q E h => sp_part_text_len h) (fun cdv A outer s H vs Q E hr h => ?_)
  obtain ⟨a, l, d, n, ps, i, rfl, hp, wf, sm, h40, hi, k, kx⟩ := h
  obtain ⟨dx, ho⟩ := id hp.ob
  have sz : sizeLine = 16777216 := sizeLine_eq
  refine ⟨_, (pss_cons (ps_if (pt_cmpR op_gt (pe_call G_size hr rfl T.g_size T.F_size.kp T.b_size .nil pass0 (pa_cons (pv 0) (pa_cons (pv 1) pa_nil))) (pe_glob (v := .int 400) rfl T.c_MOST_TOKENS ⟨_, rfl⟩) (nomark _))
        (pss_one (ps_raise rfl (takes_of rfl rfl rfl rfl) (pmk_E T.o_TooMany T.ii_TooMany T.it_TooMany G_TooMany_init (hr.mono (by decide)) T.b_TooMany_init (by rfl) T.g_TooMany (pa_cons pe_str pa_nil))))
        pss_nil)
       (pss_cons (ps_set (i := 2) sc_part_text.nd rfl (Or.inl rfl) (pe_lst pa_nil))
       (pss_cons (ps_set (i := 3) sc_part_text.nd rfl (Or.inl rfl) (pe_lst (pa_cons (pv 1) pa_nil)))
       (pss_cons (ps_while (passes_of rfl) (pt_truth (pv 3) (by intro _; rfl))
        (pss_cons (ps_set (i := 4) sc_part_text.nd rfl (Or.inl rfl) (pe_meth (pv 0) T.cl T.m_p_part G_p_part (hr.mono (by decide)) T.b_p_part .nil (passes_call (takes_of rfl rfl rfl rfl) (fun _ _ _ _ h => h)) (pa_cons (pe_bm0 PySem.F.plainAttrs_list PySem.F.slot_list_pop PySem.F.type_list_pop mt_pop (pv 3)) pa_nil)))
       (pss_one (ps_if (pt_cmpR op_eq (pe_ix ix_tup (pv 4) pe_int (fun _ _ => rfl)) pe_str (nomark _))
        (pss_one (ps_expr (pe_bm PySem.F.plainAttrs_list PySem.F.slot_list_append PySem.F.type_list_append mt_append (pv 2) (pa_cons (pe_callTy call_str_int (by rfl) T.n_str (by decide +kernel) (pa_cons (pe_ix ix_tup (pv 4) pe_int (fun _ _ => rfl)) pa_nil)) pa_nil))))
        (pss_one (ps_if (pt_cmpR op_eq (pe_ix ix_tup (pv 4) pe_int (fun _ _ => rfl)) pe_str (nomark _))
        (pss_one (ps_expr (pe_bm PySem.F.plainAttrs_list PySem.F.slot_list_append PySem.F.type_list_append mt_append (pv 2) (pa_cons (pe_joined (PJ.cons pe_str (PJ.cons (pe_fmt (pe_ix ix_tup (pv 4) pe_int (fun _ _ => rfl))) PJ.nil))) pa_nil))))
        (pss_cons (ps_expr (pe_bm PySem.F.plainAttrs_list PySem.F.slot_list_append PySem.F.type_list_append mt_append (pv 2) (pa_cons (pe_ix ix_tup (pv 4) pe_int (fun _ _ => rfl)) pa_nil)))
       (pss_one (ps_expr (pe_bm PySem.F.plainAttrs_list PySem.F.slot_list_extend PySem.F.type_list_extend mt_extend (pv 3) (pa_cons (pe_lst (pa_cons (pe_ix ix_tup (pv 4) pe_int (fun _ _ => rfl)) (pa_cons (pe_ix ix_tup (pv 4) pe_int (fun _ _ => rfl)) pa_nil))) pa_nil)))))))))))
       (pss_one (ps_ret (pe_join pe_str (pv 2)))))))), ?_⟩
  refine ⟨_, rfl, _, rfl, a, l, d, n, ps, i, rfl, hp, wf, h40, hi, fun H1 s1 => ⟨_, _, rfl, rfl, _, rfl, ?_⟩⟩
  by_cases h4 : (tkn ps i).length ≤ 400
  case neg =>
    refine iteP (dT (by omega)) (raiseE fun d' hd' => kx (by omega) H1 d' s1 hd')
  have K0 := k h4
  refine iteN (dF (by omega)) ?_
  refine ⟨Nat.zero_le _, fun tl tl0 => ?_⟩
  have s2 := s1.trans (same_new (o := .lst []) tl0)
  have htl : upd H1 tl (.lst []) tl = some (.lst []) := upd_same
  have tlN : H tl = none := s1.free tl0
  generalize upd H1 tl (.lst []) = H2 at s2 htl ⊢
  refine ⟨_, rfl, by show 1 ≤ sizeLine; decide, fun wl wl0 => ?_⟩
  have s3' := same_new (o := .lst [.int (i : Nat)]) wl0
  have s3 := s2.trans s3'
  have hwl : upd H2 wl (.lst [.int (i : Nat)]) wl = some (.lst [.int (i : Nat)]) := upd_same
  have htl3 := s3' _ _ htl
  have wlN : H wl = none := s2.free wl0
  have tw : tl ≠ wl := fun z => by rw [z] at htl; rw [wl0] at htl; cases htl
  generalize upd H2 wl (.lst [.int (i : Nat)]) = H3 at s3 hwl htl3 ⊢
  refine ⟨fun m σ H5 => ∃ (W : List Nat) (ys : List Str) (v4 : Option V), m = (flatW ps W).length ∧ ys ++ flatW ps W = tkn ps i ∧ (∀ z ∈ W, z < ps.length) ∧ Same H H5 ∧ H5 tl = some (.lst (ys.map V.str)) ∧ H5 wl = some (.lst (natL W)) ∧ σ = [some (.ref a), some (.int (i : Nat)), some (.ref tl), some (.ref wl), v4],
    ⟨_, [i], [], none, rfl, flatW_one ps i, fun z hz => by rw [List.mem_singleton.mp hz]; exact hi, s3, htl3, hwl, rfl⟩, ?_⟩
  rintro m σ H5 ⟨W, ys, v4, rfl, hy, hW, s5, ht5, hw5, rfl⟩
  rcases W.eq_nil_or_concat with rfl | ⟨W', kk, rfl⟩
  · refine ⟨_, rfl, _, Or.inl ⟨_, SqL.of hw5, rfl⟩, iteN (by decide) ?_⟩
    have ey : ys = tkn ps i := by rw [← hy, flatW_nil, List.append_nil]
    subst ey
    have := sum_len (tok_len wf sm i)
    have e1 : (" " : Str).length = 1 := by decide
    refine ⟨⟨_, rfl⟩, _, rfl, _, tl, _, rfl, rfl, .inl (SqL.of ht5), by rw [e1]; omega, ?_⟩
    exact K0 H5 s5
  rw [List.concat_eq_append] at *
  have hkn : kk < ps.length := hW kk (by simp)
  have hW' : ∀ z ∈ W', z < ps.length := fun z hz => hW z (by simp [hz])
  obtain ⟨p, hpk⟩ : ∃ p, ps[kk]? = some p := ⟨_, List.getElem?_eq_getElem hkn⟩
  rw [natL_snoc'] at hw5
  refine ⟨_, rfl, _, Or.inl ⟨_, SqL.of hw5, rfl⟩, iteP (by simp) ?_⟩
  have ylen : ys.length ≤ 400 := by
    have := congrArg List.length hy
    rw [List.length_append] at this; omega
  have wlen : W'.length ≤ 400 := by
    have h1 : ∀ V : List Nat, V.length ≤ (flatW ps V).length := fun V => by
      induction V with
      | nil => simp
      | cons x r ih =>
        unfold flatW at *
        rw [List.reverse_cons, List.map_append, List.flatten_append, List.length_append, List.length_cons]
        have := toks_pos (tm ps x)
        have : 1 ≤ ([x].map (tkn ps)).flatten.length := by
          show 1 ≤ ((tm ps x).toks ++ []).length
          rw [List.append_nil]; exact this
        omega
    have := h1 (W' ++ [kk])
    have h2 := congrArg List.length hy
    rw [List.length_append] at h2
    rw [List.length_append, List.length_singleton] at this; omega
  refine ⟨fun σ' H' => ∃ (W2 : List Nat) (z : Str) (v4 : Option V), z :: flatW ps W2 = flatW ps (W' ++ [kk]) ∧ (∀ z ∈ W2, z < ps.length) ∧ Same H H' ∧ H' tl = some (.lst ((ys ++ [z]).map V.str)) ∧ H' wl = some (.lst (natL W2)) ∧ σ' = [some (.ref a), some (.int (i : Nat)), some (.ref tl), some (.ref wl), v4],
    fun σ' H' ⟨W2, z, v4, e, h1, h2, h3, h4', h5⟩ => ⟨(flatW ps W2).length, by rw [← e]; simp, W2, ys ++ [z], v4, rfl, by rw [List.append_assoc]; show ys ++ (z :: flatW ps W2) = _; rw [e, hy], h1, h2, h3, h4', h5⟩, ?_⟩
  have up : ∀ (H' : Hp) (b : Addr) (o' : HO), Same H H' → H b = none → Same H (upd H' b o') := fun H' b o' s hb x ox e => by
    rw [upd_ne (ne_of_none e hb)]; exact s _ _ e
  refine ⟨_, rfl, a, dx, _, rfl, s5 _ _ ho, no_meth (by decide +kernel), _, rfl, Or.inl ⟨rfl, _, SqL.of hw5⟩, wl, _, .int (kk : Nat), rfl, rfl, hw5, by simp, ?_⟩
  rw [List.dropLast_concat]
  have s6 := up H5 wl (.lst (natL W')) s5 wlN
  have hw6 : upd H5 wl (.lst (natL W')) wl = some (.lst (natL W')) := upd_same
  have ht6 : upd H5 wl (.lst (natL W')) tl = some (.lst (ys.map V.str)) := by rw [upd_ne tw]; exact ht5
  generalize upd H5 wl (.lst (natL W')) = H6 at s6 hw6 ht6 ⊢
  refine ⟨a, l, d, n, ps, kk, p, rfl, hp.news s6, hpk, fun t7 hT7 => ?_⟩
  have yl : (ys.map V.str).length < sizeLine := by rw [List.length_map]; omega
  have app : ∀ z : Str, Same H (upd H6 tl (.lst (ys.map V.str ++ [.str z]))) ∧ upd H6 tl (.lst (ys.map V.str ++ [.str z])) tl = some (.lst ((ys ++ [z]).map V.str)) ∧ upd H6 tl (.lst (ys.map V.str ++ [.str z])) wl = some (.lst (natL W')) := fun z =>
    ⟨up _ _ _ s6 tlN, by rw [upd_same, List.map_append]; rfl, by rw [upd_ne tw.symm]; exact hw6⟩
  cases p with
  | num v =>
    have hv := sm.num _ _ hpk
    refine ⟨_, rfl, t7, _, 0, _, rfl, rfl, SqT.of hT7, rfl, rfl, _, rfl, iteP (by decide) ?_⟩
    refine ⟨_, rfl, .inl ⟨rfl, _, SqL.of ht6⟩, _, rfl, t7, _, 1, _, rfl, rfl, SqT.of hT7, rfl, v, rfl, log_small hv.1 hv.2, tl, _, _, rfl, rfl, ht6, yl, ?_⟩
    obtain ⟨a1, a2, a3⟩ := app (decS v)
    exact ⟨W', decS v, _, (flatW_leaf (tm_num hpk)).symm, hW', a1, a2, a3, rfl⟩
  | get g =>
    have hv := sm.get _ _ hpk
    refine ⟨_, rfl, t7, _, 0, _, rfl, rfl, SqT.of hT7, rfl, rfl, _, rfl, iteN (by decide) ?_⟩
    refine ⟨_, rfl, t7, _, 0, _, rfl, rfl, SqT.of hT7, rfl, rfl, _, rfl, iteP (by decide) ?_⟩
    have gl := (small_dec hv.1 hv.2).2
    have eg : (Str.empty ++ ("g" : Str)) ++ decS g = gS g := by
      have : Str.empty ++ ("g" : Str) = "g" := by decide +kernel
      rw [this]; rfl
    refine ⟨_, rfl, .inl ⟨rfl, _, SqL.of ht6⟩, "g", rfl, by decide +kernel, _, rfl, t7, _, 1, _, rfl, rfl, SqT.of hT7, rfl, .inr ⟨g, rfl, log_small hv.1 hv.2, decS g, rfl, by rw [eg]; omega, ?_⟩⟩
    rw [show (Str.empty ++ ("g" : Str)) ++ decS g = gS g from eg]
    refine ⟨tl, _, _, rfl, rfl, ht6, yl, ?_⟩
    obtain ⟨a1, a2, a3⟩ := app (gS g)
    exact ⟨W', gS g, _, (flatW_leaf (tm_get hpk)).symm, hW', a1, a2, a3, rfl⟩
  | op o x y =>
    have wfp := wf _ _ _ _ hpk
    refine ⟨_, rfl, t7, _, 0, _, rfl, rfl, SqT.of hT7, rfl, rfl, _, rfl, iteN (op_num_f o) ?_⟩
    refine ⟨_, rfl, t7, _, 0, _, rfl, rfl, SqT.of hT7, rfl, rfl, _, rfl, iteN (op_get_f o) ?_⟩
    refine ⟨_, rfl, .inl ⟨rfl, _, SqL.of ht6⟩, _, rfl, t7, _, 0, _, rfl, rfl, SqT.of hT7, rfl, tl, _, _, rfl, rfl, ht6, yl, ?_⟩
    obtain ⟨a1, a2, a3⟩ := app o.s
    have hT8 : upd H6 tl (.lst (ys.map V.str ++ [.str o.s])) t7 = some (.tup (Part.op o x y).vals) := by
      rw [upd_ne (ne_of hT7 ht6 (by intro z; cases z))]; exact hT7
    generalize upd H6 tl (.lst (ys.map V.str ++ [.str o.s])) = H8 at a1 a2 a3 hT8 ⊢
    refine ⟨_, rfl, .inl ⟨rfl, _, SqL.of a3⟩, _, rfl, t7, _, 2, _, rfl, rfl, SqT.of hT8, rfl, _, rfl, t7, _, 1, _, rfl, rfl, SqT.of hT8, rfl, by show 2 ≤ sizeLine; decide, fun u u0 => ?_⟩
    have s9' := same_new (o := .lst [.int (y : Nat), .int (x : Nat)]) u0
    have hu : upd H8 u (.lst [.int (y : Nat), .int (x : Nat)]) u = some (.lst [.int (y : Nat), .int (x : Nat)]) := upd_same
    have s9 := a1.trans s9'
    have a2' := s9' _ _ a2
    have a3' := s9' _ _ a3
    generalize upd H8 u (.lst [.int (y : Nat), .int (x : Nat)]) = H9 at s9 hu a2' a3' ⊢
    refine ⟨wl, u, _, _, rfl, rfl, a3', hu, by rw [natL_len]; show _ + 2 ≤ _; omega, ?_⟩
    refine ⟨W' ++ [y, x], o.s, _, (flatW_op (tm_op wf hpk)).symm, fun z hz => ?_, up _ _ _ s9 wlN, by rw [upd_ne tw]; exact a2', by rw [upd_same]; unfold natL; rw [List.map_append]; rfl, rfl⟩
    rcases List.mem_append.mp hz with hz | hz
    · exact hW' z hz
    · rcases List.mem_cons.mp hz with rfl | hz
      · omega
      · rw [List.mem_singleton.mp hz]; omega
end
end My

/-! LJ -/
namespace My
open PySem L2
local macro_rules | `(tactic| walk_at "side") => `(tactic| first | with_reducible rfl | assumption | rfl | decide | omega | exact cpow1 (by omega) (by omega) | exact cdiv (by omega) (by omega) | exact two_pos _ | exact SqL.of (by assumption) | exact SqT.of (by assumption) | exact TyX.base (TyOf.int _) | exact TyX.base (TyOf.bl _) | exact TyX.base TyOf.non | exact scal_opt _ _ | exact k_ii | exact k_bi | exact k_ni | exact k_ib | exact k_bb | exact TyX.base (TyOf.lst (by assumption)) | exact k_ll | exact k_lt)
local macro_rules | `(tactic| walk_at "p") => `(tactic| repeat (first | refine And.intro (by walk_at "side") ?_ | apply Exists.intro | refine iteN (by assumption) ?_ | refine iteP (by assumption) ?_ | refine iteN (by decide) ?_ | refine iteP (by decide) ?_))

section
variable {P : Program} {w : World} {K : PySem.W.Frag} {mg : Str → Option Value} {base : Heap}
def sp_law_all_made (T : Txt K mg) : Sp := fun vs H Q _ => ∃ (a lp d l R : Addr) (n u : Nat) (plain : Bool) (rs : List Part), vs = [.ref a, .ref l, .int n, .ref R] ∧ PoolAt T.C H a lp d n [] ∧ LAt H l [] ∧ LAt H R rs ∧ Rows n u plain rs ∧ 1 ≤ n ∧ n ≤ 12 ∧ rs.length < 60 ∧
  l ≠ lp ∧ R ≠ l ∧ R ≠ lp ∧
  ∀ (H' : Hp) (t : Addr), H t = none → PoolAt T.C H' a lp d n (mAll n rs).1 → LAt H' l (mAll n rs).1 → H' t = some (.lst (natL (mAll n rs).2)) → (∀ b o, H b = some o → b ≠ l → b ≠ lp → b ≠ d → H' b = some o) → Q (.ref t) H'
theorem sp_law_all_made_len {T : Txt K mg} {vs H Q E} (h : sp_law_all_made T vs H Q E) : vs.length = 4 := by obtain ⟨_, _, _, _, _, _, _, _, _, rfl, _⟩ := h; rfl
theorem ok_law_all_made (T : Txt K mg) : FnOk P w K mg base CX0 6 T.f_law_all_made T.fd_law_all_made ["_law_pool", "_law_parts", "_law_width", "_law_rows"] (sp_law_all_made T) := by
  have G_law_asked := ok_law_asked (P := P) (w := w) (base := base) T; have G_law_part := ok_law_part (P := P) (w := w) (base := base) T
  refine T.F_law_all_made.ok sc_law_all_made (fun vs H Q E h => sp_law_all_made_len h) (fun cdv A outer s H vs Q E hr h => ?_)
  obtain ⟨a, lp, d, l, R, n, u, plain, rs, rfl, hp, hl, hR, ro, n1, n12, r60, llp, Rl, Rlp, k⟩ := h
  refine ⟨_, (pss_cons (ps_set (i := 4) sc_law_all_made.nd rfl (Or.inl rfl) (pe_lst pa_nil))
       (pss_cons (ps_for PassesOwn.never rfl (pi_list (pv 3)) (pg_name (i := 5) sc_law_all_made.nd rfl (Or.inl rfl))
        (pss_cons (ps_set (i := 6) sc_law_all_made.nd rfl (Or.inl rfl) (pe_call G_law_part (hr.mono (by decide)) rfl T.g_law_part T.F_law_part.kp T.b_law_part .nil pass0 (pa_cons (pv 1) (pa_cons (pv 2) (pa_cons (pv 5) (pa_cons (pv 4) pa_nil))))))
       (pss_cons (ps_if (pt_cmpR op_ne (pe_call G_law_asked hr rfl T.g_law_asked T.F_law_asked.kp T.b_law_asked .nil passL (pa_cons (pv 0) (pa_cons (pv 5) (pa_cons (pv 4) pa_nil)))) (pv 6) (nomark _))
        (pss_one (ps_ret (pe_lst pa_nil)))
        pss_nil)
       (pss_one (ps_expr (pe_bm PySem.F.plainAttrs_list PySem.F.slot_list_append PySem.F.type_list_append mt_append (pv 4) (pa_cons (pv 6) pa_nil)))))))
       (pss_one (ps_ret (pv 4))))), ?_⟩
  have sz : sizeLine = 16777216 := sizeLine_eq
  obtain ⟨xs, hX, ex, hit⟩ := hR.item
  obtain ⟨tsp, hlp, _⟩ := id hp.lst
  obtain ⟨tsl, hll, _⟩ := id hl
  have hd := hp.dic
  have Rd : R ≠ d := ne_of hX hd (by intro z; cases z)
  -- places = []
  refine ⟨Nat.zero_le _, fun D hD => ?_⟩
  have s1 := same_new (o := .lst []) hD
  have Dl : D ≠ l := fun e => by rw [e, hll] at hD; cases hD
  have Dlp : D ≠ lp := fun e => by rw [e, hlp] at hD; cases hD
  have Dd : D ≠ d := fun e => by rw [e, hd] at hD; cases hD
  refine ⟨_, rfl, R, rfl, ⟨_, SqL.of (s1 _ _ hX)⟩, ?_⟩
  refine for_list (K := K) (a := R) (xs := xs) (fun j σ' H2 => ∃ v5 v6 : Option V, σ' = [some (.ref a), some (.ref l), some (.int (n : Nat)), some (.ref R), some (.ref D), v5, v6] ∧ PoolAt T.C H2 a lp d n (mAll n (rs.take j)).1 ∧ LAt H2 l (mAll n (rs.take j)).1 ∧ H2 D = some (.lst (natL (mAll n (rs.take j)).2)) ∧ (∀ b o, H b = some o → b ≠ l → b ≠ lp → b ≠ d → H2 b = some o))
    ⟨none, none, rfl, hp.news s1, hl.news s1, upd_same, fun b o e _ _ _ => s1 b o e⟩ ?_ ?_ ?_
  · rintro j σ' H2 _ ⟨_, _, _, _, _, _, f2⟩
    exact SqL.of (f2 _ _ hX Rl Rlp Rd)
  · rintro j x σ' H2 hj ⟨v5, v6, rfl, hp2, hl2, hD2, f2⟩
    have hjl := (List.getElem?_eq_some_iff.mp hj).1
    obtain ⟨r, hr'⟩ : ∃ p, rs[j]? = some p := ⟨_, List.getElem?_eq_getElem (by omega)⟩
    obtain ⟨t, ht, hT⟩ := hit j r hr'
    rw [hj] at ht
    cases ht
    have tl : t ≠ l := ne_of hT hll (by intro z; cases z)
    have tlp : t ≠ lp := ne_of hT hlp (by intro z; cases z)
    have td : t ≠ d := ne_of hT hd (by intro z; cases z)
    have hT2 := f2 _ _ hT tl tlp td
    have inv := mAll_inv n1 ro j
    have hjt : (rs.take j).length = j := by rw [List.length_take]; omega
    have rk : RowOk n u plain (rs.take j).length r := by rw [hjt]; exact rowOk_at ro hr'
    have hin := inv.rowIn rk
    have il := inv.len
    have ip := inv.plen
    rw [hjt] at il ip
    have es : mAll n (rs.take (j + 1)) = mStep n (mAll n (rs.take j)) r := by rw [take_snoc hr', mAll_snoc]
    have ml := mPart_len (n := n) (ps := (mAll n (rs.take j)).1) (r := r) (pl := (mAll n (rs.take j)).2)
    -- due
    refine ⟨_, rfl, _, rfl, _, rfl, _, rfl, l, t, D, _, n, r, _, rfl, hl2, by omega, n12, hT2, hD2, hin, fun H3 hl3 f3 => ?_⟩
    obtain ⟨_, hll2, _⟩ := id hl2
    have hp3 := hp2.but hll2 llp.symm f3
    have hT3 := f3 _ _ hT2 tl
    have hD3 := f3 _ _ hD2 Dl
    obtain ⟨_, hlp3, _⟩ := id hp3.lst
    have hd3 := hp3.dic
    -- asked
    refine ⟨_, rfl, _, rfl, _, rfl, a, lp, d, t, D, _, n, r, _, rfl, hp3, by omega, n12, hT3, hD3, hin, fun H4 hp4 f4 => ?_⟩
    have hl4 := hl3.but2 hlp3 hd3 llp f4
    have hD4 := f4 _ _ hD3 Dlp Dd
    generalize hM : mPart n (mAll n (rs.take j)).1 r (mAll n (rs.take j)).2 = M at *
    refine ⟨_, rfl, rfl, _, rfl, iteN (by simp) ?_⟩
    -- places.append(due)
    have f : ∀ b o, H4 b = some o → b ≠ D → upd H4 D (.lst (natL (mAll n (rs.take j)).2 ++ [.int (M.1 : Nat)])) b = some o := fun b o e hb => by rw [upd_ne hb]; exact e
    have e1 : (mAll n (rs.take (j + 1))).1 = M.2 := by rw [es]; show (mPart n _ r _).2 = _; rw [hM]
    have e2 : (mAll n (rs.take (j + 1))).2 = (mAll n (rs.take j)).2 ++ [M.1] := by rw [es]; show _ ++ [(mPart n _ r _).1] = _; rw [hM]
    refine ⟨_, rfl, .inl ⟨rfl, _, SqL.of hD4⟩, _, rfl, D, _, _, rfl, rfl, hD4, by rw [natL_len]; omega, _, _, rfl, ?_, ?_, ?_, fun b o e h1 h2 h3 => ?_⟩
    · rw [e1]; exact hp4.but hD4 Dlp.symm f
    · rw [e1]; exact hl4.but hD4 Dl.symm f
    · rw [upd_same, e2, natL_snoc]
    · rw [upd_ne (ne_of_none e hD)]; exact f4 _ _ (f3 _ _ (f2 _ _ e h1 h2 h3) h1) h2 h3
  rintro σ' H2 ⟨v5, v6, rfl, hp2, hl2, hD2, f2⟩
  rw [ex, List.take_length] at hp2 hl2 hD2
  exact ⟨_, rfl, k H2 D hD hp2 hl2 hD2 f2⟩
def sp_law_due_chosen (T : Txt K mg) : Sp := fun vs H Q _ => ∃ (l : Addr) (n : Nat) (ps : List Part) (t x y : Nat), vs = [.ref l, .int n, .int t, .int x, .int y] ∧ LAt H l ps ∧ ps.length < 900 ∧ n ≤ 12 ∧ t < ps.length ∧ x < ps.length ∧ y < ps.length ∧ LMade H l (mChosen n ps t x y) Q
theorem sp_law_due_chosen_len {T : Txt K mg} {vs H Q E} (h : sp_law_due_chosen T vs H Q E) : vs.length = 5 := by obtain ⟨_, _, _, _, _, _, rfl, _⟩ := h; rfl
theorem ok_law_due_chosen (T : Txt K mg) : FnOk P w K mg base CX0 4 T.f_law_due_chosen T.fd_law_due_chosen ["_law_parts", "_law_width", "_law_test", "_law_one", "_law_other"] (sp_law_due_chosen T) := by
  have G_law_apply := ok_law_apply (P := P) (w := w) (base := base) T; have G_law_keep := ok_law_keep (P := P) (w := w) (base := base) T
  refine T.F_law_due_chosen.ok sc_law_due_chosen (fun vs H Q E h => sp_law_due_chosen_len h) (fun cdv A outer s H vs Q E hr h => ?_)
  obtain ⟨l, n, ps, t, x, y, rfl, hl, hn, n12, ht, hx, hy, k⟩ := h
  refine ⟨_, (pss_cons (ps_set (i := 5) sc_law_due_chosen.nd rfl (Or.inl rfl) (pe_call G_law_apply hr rfl T.g_law_apply T.F_law_apply.kp T.b_law_apply .nil pass0 (pa_cons (pv 0) (pa_cons (pv 1) (pa_cons pe_str (pa_cons (pv 3) (pa_cons (pv 4) pa_nil)))))))
       (pss_cons (ps_set (i := 6) sc_law_due_chosen.nd rfl (Or.inl rfl) (pe_call G_law_apply hr rfl T.g_law_apply T.F_law_apply.kp T.b_law_apply .nil pass0 (pa_cons (pv 0) (pa_cons (pv 1) (pa_cons pe_str (pa_cons (pv 2) (pa_cons (pe_call G_law_keep (hr.mono (by decide)) rfl T.g_law_keep T.F_law_keep.kp T.b_law_keep .nil pass0 (pa_cons (pv 0) (pa_cons (pe_tup (pa_cons pe_str (pa_cons pe_int pa_nil))) pa_nil))) pa_nil)))))))
       (pss_cons (ps_set (i := 7) sc_law_due_chosen.nd rfl (Or.inl rfl) (pe_call G_law_apply hr rfl T.g_law_apply T.F_law_apply.kp T.b_law_apply .nil pass0 (pa_cons (pv 0) (pa_cons (pv 1) (pa_cons pe_str (pa_cons (pv 6) (pa_cons (pe_call G_law_keep (hr.mono (by decide)) rfl T.g_law_keep T.F_law_keep.kp T.b_law_keep .nil pass0 (pa_cons (pv 0) (pa_cons (pe_tup (pa_cons pe_str (pa_cons pe_int pa_nil))) pa_nil))) pa_nil)))))))
       (pss_one (ps_ret (pe_call G_law_apply hr rfl T.g_law_apply T.F_law_apply.kp T.b_law_apply .nil pass0 (pa_cons (pv 0) (pa_cons (pv 1) (pa_cons pe_str (pa_cons (pv 4) (pa_cons (pe_call G_law_apply hr rfl T.g_law_apply T.F_law_apply.kp T.b_law_apply .nil pass0 (pa_cons (pv 0) (pa_cons (pv 1) (pa_cons pe_str (pa_cons (pv 5) (pa_cons (pv 7) pa_nil)))))) pa_nil))))))))))), ?_⟩
  have sz : (2 : Nat) ≤ sizeLine := by show 2 ≤ sizeLine; decide
  have A1 := mApply_len n ps .xor x y
  have A2 := (mApply_pre n ps .xor x y).length_le
  have A3 := mApply_lt (w := n) (o := .xor) hx hy
  refine ⟨_, rfl, _, rfl, _, rfl, _, rfl, l, ps, n, .xor, x, y, rfl, hl, by omega, n12, hx, hy, fun HA hlA fA => ?_⟩
  unfold mChosen at k
  generalize mApply n ps .xor x y = A at *
  have Z1 := mk_len A.2 (.num 0)
  have Z2 := (mk_pre A.2 (.num 0)).length_le
  have Z3 := mk_lt A.2 (.num 0)
  refine ⟨_, rfl, _, rfl, _, rfl, _, rfl, sz, fun q hq => ?_⟩
  have sq := same_new (o := .tup (Part.num 0).vals) hq
  refine ⟨l, q, A.2, .num 0, rfl, hlA.news sq, upd_same, by omega, fun HZ hlZ fZ => ?_⟩
  generalize mk A.2 (.num 0) = Z at *
  have I1 := mApply_len n Z.2 .same t Z.1
  have I2 := (mApply_pre n Z.2 .same t Z.1).length_le
  have I3 := mApply_lt (w := n) (o := .same) (a := t) (b := Z.1) (by omega : t < Z.2.length) Z3
  refine ⟨l, Z.2, n, .same, t, Z.1, rfl, hlZ, by omega, n12, by omega, Z3, fun HI hlI fI => ?_⟩
  generalize mApply n Z.2 .same t Z.1 = I at *
  have N1 := mk_len I.2 (.num 1)
  have N2 := (mk_pre I.2 (.num 1)).length_le
  have N3 := mk_lt I.2 (.num 1)
  refine ⟨_, rfl, _, rfl, _, rfl, _, rfl, sz, fun q' hq' => ?_⟩
  have sq' := same_new (o := .tup (Part.num 1).vals) hq'
  refine ⟨l, q', I.2, .num 1, rfl, hlI.news sq', upd_same, by omega, fun HN hlN fN => ?_⟩
  generalize mk I.2 (.num 1) = N at *
  have M1 := mApply_len n N.2 .sub I.1 N.1
  have M2 := (mApply_pre n N.2 .sub I.1 N.1).length_le
  have M3 := mApply_lt (w := n) (o := .sub) (a := I.1) (b := N.1) (by omega : I.1 < N.2.length) N3
  refine ⟨l, N.2, n, .sub, I.1, N.1, rfl, hlN, by omega, n12, by omega, N3, fun HM hlM fM => ?_⟩
  generalize mApply n N.2 .sub I.1 N.1 = M at *
  have B1 := mApply_len n M.2 .and A.1 M.1
  have B2 := (mApply_pre n M.2 .and A.1 M.1).length_le
  have B3 := mApply_lt (w := n) (o := .and) (a := A.1) (b := M.1) (by omega : A.1 < M.2.length) M3
  refine ⟨_, rfl, _, rfl, _, rfl, _, rfl, _, rfl, _, rfl, _, rfl, l, M.2, n, .and, A.1, M.1, rfl, hlM, by omega, n12, by omega, M3, fun HB hlB fB => ?_⟩
  generalize mApply n M.2 .and A.1 M.1 = B at *
  refine ⟨l, B.2, n, .xor, y, B.1, rfl, hlB, by omega, n12, by omega, B3, fun HC hlC fC => ?_⟩
  exact k HC hlC fun b o e h1 => fC _ _ (fB _ _ (fM _ _ (fN _ _ (sq' _ _ (fI _ _ (fZ _ _ (sq _ _ (fA _ _ e h1)) h1) h1)) h1) h1) h1) h1
end
end My

/-! LK -/
namespace My
open PySem L2
local macro_rules | `(tactic| walk_at "side") => `(tactic| first | with_reducible rfl | assumption | rfl | decide | omega | exact cpow1 (by omega) (by omega) | exact cdiv (by omega) (by omega) | exact two_pos _ | exact SqL.of (by assumption) | exact SqT.of (by assumption) | exact TyX.base (TyOf.int _) | exact TyX.base (TyOf.bl _) | exact TyX.base TyOf.non | exact scal_opt _ _ | exact k_ii | exact k_bi | exact k_ni | exact k_ib | exact k_bb | exact TyX.base (TyOf.lst (by assumption)) | exact k_ll | exact k_lt)
local macro_rules | `(tactic| walk_at "p") => `(tactic| repeat (first | refine And.intro (by walk_at "side") ?_ | apply Exists.intro | refine iteN (by assumption) ?_ | refine iteP (by assumption) ?_ | refine iteN (by decide) ?_ | refine iteP (by decide) ?_))

/-! ### rows of ints compared -/
theorem dpAll_ints {K : PySem.W.Frag} {H : Hp} : ∀ ws : List Int, DpAll K H (ws.map V.int) (ws.map PyData.int)
  | [] => .nil
  | x :: ws => .cons (.int x) (dpAll_ints ws)
theorem depth_ints : ∀ ws : List Int, PyData.depthAll (ws.map PyData.int) ≤ 1
  | [] => by simp [PyData.depthAll]
  | x :: ws => by
    have := depth_ints ws
    simp [PyData.depthAll, PyData.depth]; omega
theorem lay_ints : ∀ ws : List Int, PyData.canLayAll0 (ws.map PyData.int) = true
  | [] => by simp [PyData.canLayAll0]
  | x :: ws => by simp [PyData.canLayAll0, PyData.canLay0, lay_ints ws]
theorem eqv_ints : ∀ ws : List Int, PyData.eqvAll (ws.map PyData.int) (ws.map PyData.int) = true
  | [] => by simp [PyData.eqvAll]
  | x :: ws => by simp [PyData.eqvAll, PyData.eqv, eqv_ints ws]
theorem shaped_ints (ws : List Int) : SeqAt.shaped (.list (ws.map PyData.int)) = true ∧ SeqAt.shaped (.tuple (ws.map PyData.int)) = true := by
  have h1 := lay_ints ws
  have h2 := depth_ints ws
  constructor <;> (simp [SeqAt.shaped, PyData.canLay0, PyData.depth, h1]; omega)
section
variable {P : Program} {w : World} {K : PySem.W.Frag} {mg : Str → Option Value} {base : Heap}
theorem eqI {H : Hp} {a b : Addr} {ws : List Int} {Q : VK} (ha : SqL K H a (ws.map V.int)) (hb : SqL K H b (ws.map V.int)) (k : Q (.bl true) H) : rEqD K (.ref a) (.ref b) H Q :=
  ⟨_, _, .lst ha (dpAll_ints ws), .lst hb (dpAll_ints ws), (shaped_ints ws).1, (shaped_ints ws).1, by rw [show PyData.eqv (.list (ws.map PyData.int)) (.list (ws.map PyData.int)) = true by simp [PyData.eqv, eqv_ints ws]]; exact k⟩
theorem neIL {H : Hp} {a b : Addr} {ws : List Int} {Q : VK} (ha : SqL K H a (ws.map V.int)) (hb : SqL K H b (ws.map V.int)) (k : Q (.bl false) H) : rNeD K (.ref a) (.ref b) H Q :=
  ⟨_, _, .lst ha (dpAll_ints ws), .lst hb (dpAll_ints ws), (shaped_ints ws).1, (shaped_ints ws).1, by rw [show PyData.eqv (.list (ws.map PyData.int)) (.list (ws.map PyData.int)) = true by simp [PyData.eqv, eqv_ints ws]]; exact k⟩
theorem eqIT {H : Hp} {a b : Addr} {ws : List Int} {Q : VK} (ha : SqT K H a (ws.map V.int)) (hb : SqT K H b (ws.map V.int)) (k : Q (.bl true) H) : rEqD K (.ref a) (.ref b) H Q :=
  ⟨_, _, .tup ha (dpAll_ints ws), .tup hb (dpAll_ints ws), (shaped_ints ws).2, (shaped_ints ws).2, by rw [show PyData.eqv (.tuple (ws.map PyData.int)) (.tuple (ws.map PyData.int)) = true by simp [PyData.eqv, eqv_ints ws]]; exact k⟩
theorem neIT {H : Hp} {a b : Addr} {ws : List Int} {Q : VK} (ha : SqT K H a (ws.map V.int)) (hb : SqT K H b (ws.map V.int)) (k : Q (.bl false) H) : rNeD K (.ref a) (.ref b) H Q :=
  ⟨_, _, .tup ha (dpAll_ints ws), .tup hb (dpAll_ints ws), (shaped_ints ws).2, (shaped_ints ws).2, by rw [show PyData.eqv (.tuple (ws.map PyData.int)) (.tuple (ws.map PyData.int)) = true by simp [PyData.eqv, eqv_ints ws]]; exact k⟩
theorem neL {H : Hp} {l m : Addr} {ps : List Part} {Q : VK} (hl : LAt H l ps) (hm : LAt H m ps) (h : Q (.bl false) H) : rNeD K (.ref l) (.ref m) H Q :=
  ⟨_, _, dp_list hl, dp_list hm, shaped_list ps, shaped_list ps, by
    rw [show PyData.eqv (.list (ps.map Part.pd)) (.list (ps.map Part.pd)) = true by simp [PyData.eqv, eqvAll_parts ps]]; exact h⟩
theorem neP {H : Hp} {t u : Addr} {p : Part} {Q : VK} (ht : H t = some (.tup p.vals)) (hu : H u = some (.tup p.vals)) (h : Q (.bl false) H) : rNeD K (.ref t) (.ref u) H Q :=
  ⟨p.pd, p.pd, dp_part ht, dp_part hu, shaped_part p, shaped_part p, by rw [eqv_pd, decide_eq_true rfl]; exact h⟩
/-- what list(pool) asks -/
theorem listFacts (T : Txt K mg) {H : Hp} {a l d : Addr} {n : Nat} {ps : List Part} (hp : PoolAt T.C H a l d n ps) (hz : ps.length < 4000) :
    ∃ dx l' ys, H a = some (.ins T.C dx (poolF n l d)) ∧ H l' = some (.lst ys) ∧ ys.length < sizeLine ∧
    (∀ H1, Same H H1 → sp_p_iter T [.ref a] H1 (fun v H' => ∃ it, v = .ref it ∧ H1 it = none ∧ H' = upd H1 it (ItO l' it 0)) E0 ∧ sp_p_len T [.ref a] H1 (fun v H' => v = .int (ys.length : Nat) ∧ H' = H1) E0) ∧
    ∀ (q : Addr) (H' : Hp), Same H H' → H' q = some (.lst ys) → LAt H' q ps := by
  obtain ⟨dx, ho⟩ := id hp.ob
  obtain ⟨ts, hL, hT⟩ := id hp.lst
  have sz : sizeLine = 16777216 := sizeLine_eq
  have el : (ts.map V.ref).length = ps.length := by rw [List.length_map]; exact hT.1
  refine ⟨dx, l, _, ho, hL, by omega, fun H1 s => ⟨⟨a, l, d, n, ps, rfl, hp.news s, fun it h => ⟨it, rfl, h, rfl⟩⟩, ⟨a, l, d, n, ps, rfl, hp.news s, by rw [el], rfl⟩⟩, fun q H' s hq' => ⟨ts, hq', hT.1, fun i p e => ?_⟩⟩
  obtain ⟨t, e1, e2⟩ := hT.2 i p e
  exact ⟨t, e1, s _ _ e2⟩
end
end My

/-! LL -/
namespace My
open PySem L2
local macro_rules | `(tactic| walk_at "side") => `(tactic| first | with_reducible rfl | assumption | rfl | decide | omega | exact cpow1 (by omega) (by omega) | exact cdiv (by omega) (by omega) | exact two_pos _ | exact SqL.of (by assumption) | exact SqT.of (by assumption) | exact TyX.base (TyOf.int _) | exact TyX.base (TyOf.bl _) | exact TyX.base TyOf.non | exact scal_opt _ _ | exact k_ii | exact k_bi | exact k_ni | exact k_ib | exact k_bb | exact TyX.base (TyOf.lst (by assumption)) | exact k_ll | exact k_lt)
local macro_rules | `(tactic| walk_at "p") => `(tactic| repeat (first | refine And.intro (by walk_at "side") ?_ | apply Exists.intro | refine iteN (by assumption) ?_ | refine iteP (by assumption) ?_ | refine iteN (by decide) ?_ | refine iteP (by decide) ?_))

/-! ### what stands behind the rows -/
structure Pu (n u : Nat) (rs ps : List Part) (pl : List Nat) : Prop where
  n1 : 1 ≤ n
  n12 : n ≤ 12
  u3 : u ≤ 3
  ro : Rows n u false rs
  po : Rows n u false ps
  r1 : 2 ≤ rs.length
  r60 : rs.length < 60
  plen : pl.length = rs.length
  ple : ps.length ≤ 200
  there : ∀ k ∈ pl, k < ps.length
  words : ∀ env : Int → Int, EnvG n env → ∀ k, k < rs.length → evAt n env ps (pl.getD k 0) = evAt n env rs k
theorem Pu.at {n u : Nat} {rs ps : List Part} {pl : List Nat} (h : Pu n u rs ps pl) {k : Nat} (hk : k < rs.length) : pl.getD k 0 < ps.length := by
  rw [List.getD_eq_getElem?_getD, List.getElem?_eq_getElem (by rw [h.plen]; exact hk)]
  exact h.there _ (List.getElem_mem _)
structure LS (C : Addr) (H : Hp) (n : Nat) (rs ps : List Part) (pl : List Nat) (p q a l d L R Pl : Addr) : Prop where
  dr : Dr H p q
  pool : PoolAt C H a l d n ps
  parts : LAt H L ps
  rows : LAt H R rs
  places : H Pl = some (.lst (natL pl))
structure Ne (p q l d L R Pl : Addr) : Prop where
  pq : p ≠ q
  lp : l ≠ p
  lq : l ≠ q
  Lq : L ≠ q
  Lp : L ≠ p
  Rp : R ≠ p
  Plp : Pl ≠ p
  Ll : L ≠ l
  Rl : R ≠ l
  RL : R ≠ L
  Pll : Pl ≠ l
  PlL : Pl ≠ L
/-- what stands stays but at p -/
def Fr (p : Addr) (H H' : Hp) : Prop := ∀ b o, H b = some o → b ≠ p → H' b = some o
theorem Fr.same {p : Addr} {H H' : Hp} (h : Same H H') : Fr p H H' := fun b o e _ => h b o e
theorem Fr.trans {p : Addr} {H H' H2 : Hp} (h : Fr p H H') (h' : Fr p H' H2) : Fr p H H2 := fun b o e hb => h' b o (h b o e hb) hb
section
variable {C : Addr} {H H' : Hp} {n u : Nat} {rs ps : List Part} {pl : List Nat} {p q a l d L R Pl : Addr}
theorem LS.news (h : LS C H n rs ps pl p q a l d L R Pl) (s : Same H H') : LS C H' n rs ps pl p q a l d L R Pl := ⟨h.dr.news s, h.pool.news s, h.parts.news s, h.rows.news s, s _ _ h.places⟩
theorem LS.take (h : LS C H n rs ps pl p q a l d L R Pl) (e : Ne p q l d L R Pl) (dr : Dr H' p q) (f : Fr p H H') : LS C H' n rs ps pl p q a l d L R Pl := by
  obtain ⟨_, _, hp, _⟩ := h.dr
  exact ⟨dr, h.pool.but hp e.lp f, h.parts.but hp e.Lp f, h.rows.but hp e.Rp f, f _ _ h.places e.Plp⟩
/-- a list that was made here and nobody else names changes -/
theorem LS.own (h : LS C H n rs ps pl p q a l d L R Pl) {W : Addr} {xs ys : List V} (hW : H W = some (.lst xs)) (Wp : W ≠ p) (Wq : W ≠ q) (Wl : W ≠ l) (WL : W ≠ L) (WR : W ≠ R) (WP : W ≠ Pl) : LS C (upd H W (.lst ys)) n rs ps pl p q a l d L R Pl := by
  have f : ∀ b o, H b = some o → b ≠ W → upd H W (.lst ys) b = some o := fun b o e hb => by rw [upd_ne hb]; exact e
  exact ⟨h.dr.upd Wp Wq, h.pool.but hW Wl.symm f, h.parts.but hW WL.symm f, h.rows.but hW WR.symm f, f _ _ h.places WP.symm⟩
end
structure Off (p q l d L R Pl W : Addr) : Prop where
  o1 : W ≠ p
  o2 : W ≠ q
  o3 : W ≠ l
  o4 : W ≠ L
  o5 : W ≠ R
  o6 : W ≠ Pl
  o7 : W ≠ d
theorem LS.off {C : Addr} {H : Hp} {n : Nat} {rs ps : List Part} {pl : List Nat} {p q a l d L R Pl W : Addr} (h : LS C H n rs ps pl p q a l d L R Pl) (hW : H W = none) : Off p q l d L R Pl W := by
  obtain ⟨_, _, h1, h2, _⟩ := h.dr
  obtain ⟨_, h3, _⟩ := h.pool.lst
  obtain ⟨_, h4, _⟩ := h.parts
  obtain ⟨_, h5, _⟩ := h.rows
  exact ⟨(ne_of_none h1 hW).symm, (ne_of_none h2 hW).symm, (ne_of_none h3 hW).symm, (ne_of_none h4 hW).symm, (ne_of_none h5 hW).symm, (ne_of_none h.places hW).symm, (ne_of_none h.pool.dic hW).symm⟩
theorem LS.upd {C : Addr} {H : Hp} {n : Nat} {rs ps : List Part} {pl : List Nat} {p q a l d L R Pl W : Addr} {xs ys : List V} (h : LS C H n rs ps pl p q a l d L R Pl) (o : Off p q l d L R Pl W) (hW : H W = some (.lst xs)) : LS C (upd H W (.lst ys)) n rs ps pl p q a l d L R Pl :=
  h.own hW o.o1 o.o2 o.o3 o.o4 o.o5 o.o6
theorem intL_snoc (ws : List Int) (v : Int) : intL (ws ++ [v]) = intL ws ++ [.int v] := by unfold intL; rw [List.map_append]; rfl
section
variable {P : Program} {w : World} {K : PySem.W.Frag} {mg : Str → Option Value} {base : Heap}
end
end My

/-! LN -/
namespace My
open PySem L2
local macro_rules | `(tactic| walk_at "side") => `(tactic| first | with_reducible rfl | assumption | rfl | decide | omega | exact cpow1 (by omega) (by omega) | exact cdiv (by omega) (by omega) | exact two_pos _ | exact SqL.of (by assumption) | exact SqT.of (by assumption) | exact TyX.base (TyOf.int _) | exact TyX.base (TyOf.bl _) | exact TyX.base TyOf.non | exact scal_opt _ _ | exact k_ii | exact k_bi | exact k_ni | exact k_ib | exact k_bb | exact TyX.base (TyOf.lst (by assumption)) | exact k_ll | exact k_lt)
local macro_rules | `(tactic| walk_at "p") => `(tactic| repeat (first | refine And.intro (by walk_at "side") ?_ | apply Exists.intro | refine iteN (by assumption) ?_ | refine iteP (by assumption) ?_ | refine iteN (by decide) ?_ | refine iteP (by decide) ?_))

/-- parts well made, and stable -/
structure Po (n u : Nat) (ps : List Part) : Prop where
  rows : Rows n u false ps
  si : SI n ps
theorem po_nil (n u : Nat) : Po n u [] := ⟨rows_nil _ _ _, si_nil n⟩
theorem Po.made {n u : Nat} {ps : List Part} (h : Po n u ps) {p : Part} (hp : RowOk n u false ps.length p) (hn : ∀ o a b, p ≠ .op o a b) : Po n u (My.mk ps p).2 := ⟨rows_mk h.rows hp, h.si.made h.rows.ok.wf hn⟩
theorem Po.num {n u : Nat} {ps : List Part} (h : Po n u ps) {v : Int} (h0 : 0 ≤ v) (h1 : v < 2 ^ n) : Po n u (My.mk ps (.num v)).2 := h.made (rowOk_num ⟨h0, h1⟩) fun _ _ _ e => by cases e
theorem Po.app {n u : Nat} (h1 : 1 ≤ n) {ps : List Part} (h : Po n u ps) {o : Op} {a b : Nat} (ha : a < ps.length) (hb : b < ps.length) : Po n u (mApply n ps o a b).2 := ⟨rows_mApply h1 h.rows ha hb (fun e => by cases e), h.si.mApply h.rows.ok.wf ha hb⟩
theorem po_chosen {n u : Nat} (h1 : 1 ≤ n) {ps : List Part} (h : Po n u ps) {t x y : Nat} (ht : t < ps.length) (hx : x < ps.length) (hy : y < ps.length) : Po n u (mChosen n ps t x y).2 := by
  have p1 := one_lt h1
  have A := h.app h1 (o := .xor) hx hy
  have A2 := (mApply_pre n ps .xor x y).length_le
  have A3 := mApply_lt (w := n) (o := .xor) hx hy
  unfold mChosen
  generalize mApply n ps .xor x y = a at *
  have Z := A.num (v := 0) (Int.le_refl _) (by omega)
  have Z2 := (mk_pre a.2 (.num 0)).length_le
  have Z3 := mk_lt a.2 (.num 0)
  generalize mk a.2 (.num 0) = z at *
  have I := Z.app h1 (o := .same) (a := t) (b := z.1) (by omega) Z3
  have I2 := (mApply_pre n z.2 .same t z.1).length_le
  have I3 := mApply_lt (w := n) (o := .same) (a := t) (b := z.1) (by omega : t < z.2.length) Z3
  generalize mApply n z.2 .same t z.1 = i at *
  have N := I.num (v := 1) (by omega) p1
  have N2 := (mk_pre i.2 (.num 1)).length_le
  have N3 := mk_lt i.2 (.num 1)
  generalize mk i.2 (.num 1) = m at *
  have M := N.app h1 (o := .sub) (a := i.1) (b := m.1) (by omega) N3
  have M2 := (mApply_pre n m.2 .sub i.1 m.1).length_le
  have M3 := mApply_lt (w := n) (o := .sub) (a := i.1) (b := m.1) (by omega : i.1 < m.2.length) N3
  generalize mApply n m.2 .sub i.1 m.1 = s at *
  have B := M.app h1 (o := .and) (a := a.1) (b := s.1) (by omega) M3
  have B2 := (mApply_pre n s.2 .and a.1 s.1).length_le
  have B3 := mApply_lt (w := n) (o := .and) (a := a.1) (b := s.1) (by omega : a.1 < s.2.length) M3
  generalize mApply n s.2 .and a.1 s.1 = b at *
  exact B.app h1 (by omega) B3
theorem po_car {n u : Nat} (h1 : 1 ≤ n) {ps : List Part} (h : Po n u ps) {x y : Nat} (hx : x < ps.length) (hy : y < ps.length) : Po n u (mCar n ps x y).2 := by
  have A := h.app h1 (o := .add) hx hy
  have A2 := (mApply_pre n ps .add x y).length_le
  have A3 := mApply_lt (w := n) (o := .add) hx hy
  exact A.app h1 A3 (by omega)
section
variable {P : Program} {w : World} {K : PySem.W.Frag} {mg : Str → Option Value} {base : Heap}
def sp_law_chosen_carry (T : Txt K mg) : Sp := fun vs H Q _ => ∃ (p q a l d L R Pl W : Addr) (n u : Nat) (rs ps : List Part) (pl : List Nat) (ws : List Int), vs = [.ref p, .ref a, .ref L, .ref R, .ref Pl, .ref W, .int n] ∧ LS T.C H n rs ps pl p q a l d L R Pl ∧ Ne p q l d L R Pl ∧ Pu n u rs ps pl ∧ Po n u ps ∧
  H W = some (.lst (intL ws)) ∧ ws.length = u ∧ (∀ x ∈ ws, 0 ≤ x ∧ x < 2 ^ n) ∧ W ≠ p ∧ W ≠ l ∧ W ≠ L ∧ ps.length ≤ 150 ∧
  ∀ (H' : Hp) (ps' : List Part), ps'.length ≤ ps.length + 9 → Po n u ps' → ps <+: ps' → PoolAt T.C H' a l d n ps' → LAt H' L ps' → Dr H' p q → (∀ b o, H b = some o → b ≠ p → b ≠ L → b ≠ l → b ≠ d → H' b = some o) → Q (.bl true) H'
theorem sp_law_chosen_carry_len {T : Txt K mg} {vs H Q E} (h : sp_law_chosen_carry T vs H Q E) : vs.length = 7 := by obtain ⟨_, _, _, _, _, _, _, _, _, _, _, _, _, _, _, rfl, _⟩ := h; rfl
theorem ok_law_chosen_carry (T : Txt K mg) : FnOk P w K mg base CX0 7 T.f_law_chosen_carry T.fd_law_chosen_carry ["_law_draws_here", "_law_pool", "_law_parts", "_law_rows", "_law_places", "_law_words", "_law_width"] (sp_law_chosen_carry T) := by
  have G_p_iter := ok_p_iter (P := P) (w := w) (base := base) T; have G_p_len := ok_p_len (P := P) (w := w) (base := base) T; have G_p_carry := ok_p_carry (P := P) (w := w) (base := base) T; have G_p_chosen := ok_p_chosen (P := P) (w := w) (base := base) T; have G_p_value := ok_p_value (P := P) (w := w) (base := base) T; have G_law_apply := ok_law_apply (P := P) (w := w) (base := base) T; have G_law_due_chosen := ok_law_due_chosen (P := P) (w := w) (base := base) T; have G_law_row_words := ok_law_row_words (P := P) (w := w) (base := base) T; have G_law_take := ok_law_take (P := P) (w := w) (base := base) T
  refine T.F_law_chosen_carry.ok sc_law_chosen_carry (fun vs H Q E h => sp_law_chosen_carry_len h) (fun cdv A outer s H vs Q E hr h => ?_)
  obtain ⟨p, q, a, l, d, L, R, Pl, W, n, u, rs, ps, pl, ws, rfl, st, ne, pu, po, hW, wl, gws, Wp, Wl, WL, h150, k⟩ := h
  have p1 := one_lt pu.n1
  have ge := env_of gws
  have n1 := pu.n1
  have n12 := pu.n12
  refine ⟨_, (pss_cons (ps_set (i := 7) sc_law_chosen_carry.nd rfl (Or.inl rfl) (pe_call G_law_row_words (hr.mono (by decide)) rfl T.g_law_row_words T.F_law_row_words.kp T.b_law_row_words .nil pass0 (pa_cons (pv 3) (pa_cons (pv 5) (pa_cons (pv 6) pa_nil)))))
       (pss_cons (ps_set (i := 8) sc_law_chosen_carry.nd rfl (Or.inl rfl) (pe_call G_law_take (hr.mono (by decide)) rfl T.g_law_take T.F_law_take.kp T.b_law_take .nil pass0 (pa_cons (pv 0) (pa_cons (pe_callB call_lenL (by rfl) T.n_len (by decide +kernel) (pa_cons (pv 3) pa_nil)) pa_nil))))
       (pss_cons (ps_set (i := 9) sc_law_chosen_carry.nd rfl (Or.inl rfl) (pe_call G_law_take (hr.mono (by decide)) rfl T.g_law_take T.F_law_take.kp T.b_law_take .nil pass0 (pa_cons (pv 0) (pa_cons (pe_callB call_lenL (by rfl) T.n_len (by decide +kernel) (pa_cons (pv 3) pa_nil)) pa_nil))))
       (pss_cons (ps_set (i := 10) sc_law_chosen_carry.nd rfl (Or.inl rfl) (pe_call G_law_take (hr.mono (by decide)) rfl T.g_law_take T.F_law_take.kp T.b_law_take .nil pass0 (pa_cons (pv 0) (pa_cons (pe_callB call_lenL (by rfl) T.n_len (by decide +kernel) (pa_cons (pv 3) pa_nil)) pa_nil))))
       (pss_cons (ps_set (i := 11) sc_law_chosen_carry.nd rfl (Or.inl rfl) (pe_meth (pv 1) T.cl T.m_p_chosen G_p_chosen (hr.mono (by decide)) T.b_p_chosen .nil pass0 (pa_cons (pe_ix ix_list (pv 4) (pv 8) (fun _ _ => rfl)) (pa_cons (pe_ix ix_list (pv 4) (pv 9) (fun _ _ => rfl)) (pa_cons (pe_ix ix_list (pv 4) (pv 10) (fun _ _ => rfl)) pa_nil)))))
       (pss_cons (ps_if (PW.pt (pw_or (pt_cmpR op_ne (pv 11) (pe_call G_law_due_chosen (hr.mono (by decide)) rfl T.g_law_due_chosen T.F_law_due_chosen.kp T.b_law_due_chosen .nil pass0 (pa_cons (pv 2) (pa_cons (pv 6) (pa_cons (pe_ix ix_list (pv 4) (pv 8) (fun _ _ => rfl)) (pa_cons (pe_ix ix_list (pv 4) (pv 9) (fun _ _ => rfl)) (pa_cons (pe_ix ix_list (pv 4) (pv 10) (fun _ _ => rfl)) pa_nil)))))) (nomark _)) (pw_or1 (pt_cmpR (op_neD hr.units) (pe_callTy (call_listOwn2 T.m_p_iter.1 T.m_p_iter.2 T.m_p_len.1 (beq_iff_eq.mp T.m_p_len.2) G_p_iter T.b_p_iter G_p_len T.b_p_len rfl (hr.mono (by decide))) (by rfl) T.n_list (by decide +kernel) (pa_cons (pv 1) pa_nil)) (pv 2) (nomark _)))))
        (pss_one (ps_ret pe_bl))
        pss_nil)
       (pss_cons (ps_set (i := 12) sc_law_chosen_carry.nd rfl (Or.inl rfl) (pe_ix ix_list (pv 7) (pv 10) (fun _ _ => rfl)))
       (Evl.pss_cut (ps_if (pt_cmpR op_ne (pe_ix ix_list (pv 7) (pv 8) (fun _ _ => rfl)) pe_int (nomark _))
        (pss_one (ps_set (i := 12) sc_law_chosen_carry.nd rfl (Or.inl rfl) (pe_ix ix_list (pv 7) (pv 9) (fun _ _ => rfl))))
        pss_nil)
       (pss_cons (ps_if (pt_cmpR op_ne (pe_meth (pv 1) T.cl T.m_p_value G_p_value hr T.b_p_value .nil passL (pa_cons (pv 11) (pa_cons (pv 5) pa_nil))) (pv 12) (nomark _))
        (pss_one (ps_ret pe_bl))
        pss_nil)
       (pss_cons (ps_set (i := 11) sc_law_chosen_carry.nd rfl (Or.inl rfl) (pe_meth (pv 1) T.cl T.m_p_carry G_p_carry (hr.mono (by decide)) T.b_p_carry .nil pass0 (pa_cons (pe_ix ix_list (pv 4) (pv 9) (fun _ _ => rfl)) (pa_cons (pe_ix ix_list (pv 4) (pv 10) (fun _ _ => rfl)) pa_nil))))
       (pss_cons (ps_set (i := 13) sc_law_chosen_carry.nd rfl (Or.inl rfl) (pe_call G_law_apply (hr.mono (by decide)) rfl T.g_law_apply T.F_law_apply.kp T.b_law_apply .nil pass0 (pa_cons (pv 2) (pa_cons (pv 6) (pa_cons pe_str (pa_cons (pe_ix ix_list (pv 4) (pv 9) (fun _ _ => rfl)) (pa_cons (pe_ix ix_list (pv 4) (pv 10) (fun _ _ => rfl)) pa_nil)))))))
       (pss_cons (ps_if (PW.pt (pw_or (pt_cmpR op_ne (pv 11) (pe_call G_law_apply (hr.mono (by decide)) rfl T.g_law_apply T.F_law_apply.kp T.b_law_apply .nil pass0 (pa_cons (pv 2) (pa_cons (pv 6) (pa_cons pe_str (pa_cons (pv 13) (pa_cons (pe_ix ix_list (pv 4) (pv 9) (fun _ _ => rfl)) pa_nil)))))) (nomark _)) (pw_or1 (pt_cmpR (op_neD hr.units) (pe_callTy (call_listOwn2 T.m_p_iter.1 T.m_p_iter.2 T.m_p_len.1 (beq_iff_eq.mp T.m_p_len.2) G_p_iter T.b_p_iter G_p_len T.b_p_len rfl (hr.mono (by decide))) (by rfl) T.n_list (by decide +kernel) (pa_cons (pv 1) pa_nil)) (pv 2) (nomark _)))))
        (pss_one (ps_ret pe_bl))
        pss_nil)
       (pss_one (ps_ret (pe_cmpR op_eq (pe_meth (pv 1) T.cl T.m_p_value G_p_value hr T.b_p_value .nil passL (pa_cons (pv 11) (pa_cons (pv 5) pa_nil))) (pe_callTy call_intB (by rfl) T.n_int (by decide +kernel) (pa_cons (pe_cmpR op_ge (pe_op op_add (pe_ix ix_list (pv 7) (pv 9) (fun _ _ => rfl)) (pe_ix ix_list (pv 7) (pv 10) (fun _ _ => rfl))) (pe_op op_shl pe_int (pv 6)) (nomark _)) pa_nil)) (nomark _)))))))))))))))), ?_⟩
  have sz : sizeLine = 16777216 := sizeLine_eq
  obtain ⟨xs, hX, ex, _⟩ := st.rows.item
  have rl := pu.r1
  have r60 := pu.r60
  -- due
  refine ⟨_, rfl, _, rfl, _, rfl, R, W, n, u, rs, ws, rfl, st.rows, hW, pu.ro.ok, fun k g e => (by rw [wl]; exact pu.ro.gets k g e), pu.n12, by omega, fun H1 du s1 du0 hdu => ?_⟩
  have off := st.off du0
  have st1 := st.news s1
  have hX1 := s1 _ _ hX
  have hW1 := s1 _ _ hW
  have Wd : W ≠ d := ne_of hW st.pool.dic (by intro z; cases z)
  have el : (evs n (envOf ws) rs).length = rs.length := evs_len _ _ _
  -- three places
  refine ⟨_, rfl, _, rfl, R, xs, rfl, SqL.of hX1, p, q, _, rfl, st1.dr, ne.pq, by omega, fun H2 t t0 t1 d2 k2 => ?_⟩
  have st2 := st1.take ne d2 k2
  have hX2 := k2 _ _ hX1 ne.Rp
  refine ⟨_, rfl, _, rfl, R, xs, rfl, SqL.of hX2, p, q, _, rfl, st2.dr, ne.pq, by omega, fun H3 x x0 x1 d3 k3 => ?_⟩
  have st3 := st2.take ne d3 k3
  have hX3 := k3 _ _ hX2 ne.Rp
  refine ⟨_, rfl, _, rfl, R, xs, rfl, SqL.of hX3, p, q, _, rfl, st3.dr, ne.pq, by omega, fun H4 y y0 y1 d4 k4 => ?_⟩
  have st4 := st3.take ne d4 k4
  have hdu4 := k4 _ _ (k3 _ _ (k2 _ _ hdu off.o1) off.o1) off.o1
  have hW4 := k4 _ _ (k3 _ _ (k2 _ _ hW1 Wp) Wp) Wp
  have fr4 : ∀ b o, H b = some o → b ≠ p → H4 b = some o := fun b o e h1 => k4 _ _ (k3 _ _ (k2 _ _ (s1 _ _ e) h1) h1) h1
  obtain ⟨t, rfl⟩ := Int.eq_ofNat_of_zero_le t0
  obtain ⟨x, rfl⟩ := Int.eq_ofNat_of_zero_le x0
  obtain ⟨y, rfl⟩ := Int.eq_ofNat_of_zero_le y0
  have it : t < rs.length := by omega
  have ix : x < rs.length := by omega
  have iy : y < rs.length := by omega
  have jt : t < pl.length := by rw [pu.plen]; exact it
  have jx : x < pl.length := by rw [pu.plen]; exact ix
  have jy : y < pl.length := by rw [pu.plen]; exact iy
  have hP4 := st4.places
  obtain ⟨dx, ho⟩ := id st4.pool.ob
  -- told = pool.chosen(..)
  have G := got_chosen n1 ge pu.po.ok (pu.at it) (pu.at ix) (pu.at iy)
  rw [pu.words _ ge t it, pu.words _ ge x ix, pu.words _ ge y iy] at G
  have pc := po_chosen n1 po (pu.at it) (pu.at ix) (pu.at iy)
  refine ⟨_, rfl, a, dx, _, rfl, ho, no_meth (by decide +kernel), _, rfl, _, rfl, Pl, _, _, _, rfl, rfl, SqL.of hP4, natL_at jt, _, rfl, _, rfl, Pl, _, _, _, rfl, rfl, SqL.of hP4, natL_at jx, _, rfl, _, rfl, Pl, _, _, _, rfl, rfl, SqL.of hP4, natL_at jy, ?_⟩
  refine ⟨a, l, d, n, ps, _, _, _, rfl, st4.pool, by omega, n1, n12, pu.at it, pu.at ix, pu.at iy, fun H5 hp5 f5 => ?_⟩
  obtain ⟨_, hlL, _⟩ := id st4.pool.lst
  have hdd := st4.pool.dic
  have hL5 := st4.parts.but2 hlL hdd ne.Ll f5
  have Pd : Pl ≠ d := ne_of hP4 hdd (by intro z; cases z)
  have hP5 := f5 _ _ hP4 ne.Pll Pd
  have hdu5 := f5 _ _ hdu4 off.o3 off.o7
  have hW5 := f5 _ _ hW4 Wl Wd
  have dr5 : Dr H5 p q := st4.dr.keep (S := fun b => b = l ∨ b = d) (fun b o e hb => f5 b o e (fun z => hb (.inl z)) fun z => hb (.inr z)) (by
      obtain ⟨_, _, h1, _⟩ := st4.dr
      rintro (z | z)
      · exact ne.lp z.symm
      · exact ne_of h1 hdd (by intro z; cases z) z) (by
      obtain ⟨_, _, _, h1, _⟩ := st4.dr
      rintro (z | z)
      · exact ne.lq z.symm
      · exact ne_of h1 hdd (by intro z; cases z) z)
  -- due_chosen
  refine ⟨_, rfl, _, rfl, _, rfl, _, rfl, _, rfl, Pl, _, _, _, rfl, rfl, SqL.of hP5, natL_at jt, _, rfl, _, rfl, Pl, _, _, _, rfl, rfl, SqL.of hP5, natL_at jx, _, rfl, _, rfl, Pl, _, _, _, rfl, rfl, SqL.of hP5, natL_at jy, ?_⟩
  refine ⟨L, n, ps, _, _, _, rfl, hL5, by omega, n12, pu.at it, pu.at ix, pu.at iy, fun H6 hl6 f6 => ⟨rfl, _, rfl, iteN (by simp) ?_⟩⟩
  obtain ⟨_, hLL, _⟩ := id hL5
  have hp6 := hp5.but hLL ne.Ll.symm f6
  have hP6 := f6 _ _ hP5 ne.PlL
  have hdu6 := f6 _ _ hdu5 off.o4
  have hW6 := f6 _ _ hW5 WL
  have dr6 : Dr H6 p q := dr5.keep (S := fun b => b = L) (fun b o e hb => f6 b o e hb) ne.Lp.symm ne.Lq.symm
  have clen := G.len
  have clt := G.lt
  have cev := G.ev
  have cpre := G.pre
  have cok := G.ok
  clear G
  generalize mChosen n ps (pl.getD t 0) (pl.getD x 0) (pl.getD y 0) = C at *
  obtain ⟨dx6, l', ys, o1, o2, o3, o4, o5⟩ := listFacts T hp6 (by omega)
  refine ⟨_, rfl, a, dx6, _, l', ys, rfl, o1, o2, o3, o4, fun g H7 hg s7 hg7 => ⟨_, rfl, neL (o5 g H7 s7 hg7) (hl6.news s7) ⟨_, rfl, iteN (by decide) ?_⟩⟩⟩
  have hp7 := hp6.news s7
  have hl7 := hl6.news s7
  have hP7 := s7 _ _ hP6
  have hdu7 := s7 _ _ hdu6
  have hW7 := s7 _ _ hW6
  have dr7 := dr6.news s7
  -- wanted
  refine ⟨_, rfl, _, rfl, du, _, _, _, rfl, rfl, SqL.of hdu7, intL_at (by omega), ?_⟩
  refine ⟨fun σ' H' => H' = H7 ∧ σ' = [some (.ref p), some (.ref a), some (.ref L), some (.ref R), some (.ref Pl), some (.ref W), some (.int (n : Nat)), some (.ref du), some (.int (t : Nat)), some (.int (x : Nat)), some (.int (y : Nat)), some (.int (C.1 : Nat)), some (.int (if evAt n (envOf ws) rs t ≠ 0 then evAt n (envOf ws) rs x else evAt n (envOf ws) rs y)), none], ?_, ?_⟩
  · refine ⟨_, rfl, _, rfl, du, _, _, _, rfl, rfl, SqL.of hdu7, intL_at (by omega), rfl, _, rfl, ?_⟩
    by_cases h0 : evAt n (envOf ws) rs t = 0
    · refine iteN (by rw [evs_getD, h0]; decide) ?_
      rw [if_neg (fun z => z h0)]
      exact ⟨rfl, rfl⟩
    · refine iteP (by rw [evs_getD]; simp; exact h0) ?_
      rw [if_pos h0]
      exact ⟨_, rfl, _, rfl, du, _, _, _, rfl, rfl, SqL.of hdu7, intL_at (by omega), rfl, rfl⟩
  rintro σ' H' ⟨rfl, rfl⟩
  obtain ⟨dx7, ho7⟩ := id hp7.ob
  refine ⟨_, rfl, a, dx7, _, rfl, ho7, no_meth (by decide +kernel), _, rfl, _, rfl, a, l, d, W, n, C.2, C.1, ws, rfl, hp7, cok, by omega, n12, clt, .inl hW7, gws, fun k g e => (by rw [wl]; exact pc.rows.gets k g e), fun H8 s8 => ⟨_, rfl, rfl, _, rfl, iteN (neI cev) ?_⟩⟩
  have hp8 := hp7.news s8
  have hl8 := hl7.news s8
  have hP8 := s8 _ _ hP7
  have hdu8 := s8 _ _ hdu7
  have hW8 := s8 _ _ hW7
  have dr8 := dr7.news s8
  -- carry
  have jx' : pl.getD x 0 < C.2.length := Nat.lt_of_lt_of_le (pu.at ix) cpre.length_le
  have jy' : pl.getD y 0 < C.2.length := Nat.lt_of_lt_of_le (pu.at iy) cpre.length_le
  have G2 := got_car n1 ge pc.rows.ok jx' jy'
  rw [evAt_pre cpre (pu.at ix), evAt_pre cpre (pu.at iy), pu.words _ ge x ix, pu.words _ ge y iy] at G2
  have pc2 := po_car n1 pc jx' jy'
  obtain ⟨dx8, ho8⟩ := id hp8.ob
  refine ⟨_, rfl, a, dx8, _, rfl, ho8, no_meth (by decide +kernel), _, rfl, _, rfl, Pl, _, _, _, rfl, rfl, SqL.of hP8, natL_at jx, _, rfl, _, rfl, Pl, _, _, _, rfl, rfl, SqL.of hP8, natL_at jy, ?_⟩
  refine ⟨a, l, d, n, C.2, _, _, rfl, hp8, by omega, n12, jx', jy', fun H9 hp9 f9 => ?_⟩
  obtain ⟨_, hlL8, _⟩ := id hp8.lst
  have hdd8 := hp8.dic
  have hL9 := hl8.but2 hlL8 hdd8 ne.Ll f9
  have hP9 := f9 _ _ hP8 ne.Pll Pd
  have hdu9 := f9 _ _ hdu8 off.o3 off.o7
  have hW9 := f9 _ _ hW8 Wl Wd
  have dr9 : Dr H9 p q := dr8.keep (S := fun b => b = l ∨ b = d) (fun b o e hb => f9 b o e (fun z => hb (.inl z)) fun z => hb (.inr z)) (by
      obtain ⟨_, _, h1, _⟩ := dr8
      rintro (z | z)
      · exact ne.lp z.symm
      · exact ne_of h1 hdd8 (by intro z; cases z) z) (by
      obtain ⟨_, _, _, h1, _⟩ := dr8
      rintro (z | z)
      · exact ne.lq z.symm
      · exact ne_of h1 hdd8 (by intro z; cases z) z)
  -- total
  have A1 := mApply_len n C.2 .add (pl.getD x 0) (pl.getD y 0)
  have A2 := (mApply_pre n C.2 .add (pl.getD x 0) (pl.getD y 0)).length_le
  have A3 := mApply_lt (w := n) (o := .add) jx' jy'
  refine ⟨_, rfl, _, rfl, _, rfl, _, rfl, Pl, _, _, _, rfl, rfl, SqL.of hP9, natL_at jx, _, rfl, _, rfl, Pl, _, _, _, rfl, rfl, SqL.of hP9, natL_at jy, ?_⟩
  refine ⟨L, C.2, n, .add, _, _, rfl, hL9, by omega, n12, jx', jy', fun HA hlA fA => ?_⟩
  obtain ⟨_, hLL9, _⟩ := id hL9
  have hpA := hp9.but hLL9 ne.Ll.symm fA
  have hPA := fA _ _ hP9 ne.PlL
  have hduA := fA _ _ hdu9 off.o4
  have hWA := fA _ _ hW9 WL
  have drA : Dr HA p q := dr9.keep (S := fun b => b = L) (fun b o e hb => fA b o e hb) ne.Lp.symm ne.Lq.symm
  refine ⟨_, rfl, _, rfl, _, rfl, _, rfl, _, rfl, _, rfl, Pl, _, _, _, rfl, rfl, SqL.of hPA, natL_at jx, ?_⟩
  refine ⟨L, _, n, .less, _, _, rfl, hlA, by omega, n12, A3, by omega, fun HB hlB fB => ⟨rfl, _, rfl, iteN (by unfold mCar; simp) ?_⟩⟩
  obtain ⟨_, hLLA, _⟩ := id hlA
  have hpB := hpA.but hLLA ne.Ll.symm fB
  have hduB := fB _ _ hduA off.o4
  have hWB := fB _ _ hWA WL
  have drB : Dr HB p q := drA.keep (S := fun b => b = L) (fun b o e hb => fB b o e hb) ne.Lp.symm ne.Lq.symm
  have hlB' : LAt HB L (mCar n C.2 (pl.getD x 0) (pl.getD y 0)).2 := hlB
  have dlen := G2.len
  have dlt := G2.lt
  have dev := G2.ev
  have dpre := G2.pre
  have dok := G2.ok
  clear G2 hlB
  generalize mCar n C.2 (pl.getD x 0) (pl.getD y 0) = D at *
  obtain ⟨dxB, l2, ys2, q1, q2, q3, q4, q5⟩ := listFacts T hpB (by omega)
  refine ⟨_, rfl, a, dxB, _, l2, ys2, rfl, q1, q2, q3, q4, fun g' HC hg' sC hgC => ⟨_, rfl, neL (q5 g' HC sC hgC) (hlB'.news sC) ⟨_, rfl, iteN (by decide) ?_⟩⟩⟩
  have hpC := hpB.news sC
  have hlC := hlB'.news sC
  have hduC := sC _ _ hduB
  have hWC := sC _ _ hWB
  have drC := drB.news sC
  obtain ⟨dxC, hoC⟩ := id hpC.ob
  refine ⟨_, rfl, a, dxC, _, rfl, hoC, no_meth (by decide +kernel), _, rfl, _, rfl, a, l, d, W, n, D.2, D.1, ws, rfl, hpC, dok, by omega, n12, dlt, .inl hWC, gws, fun k g e => (by rw [wl]; exact pc2.rows.gets k g e), fun HD sD => ?_⟩
  have hduD := sD _ _ hduC
  refine ⟨_, rfl, _, rfl, du, _, _, _, rfl, rfl, SqL.of hduD, intL_at (by omega), _, rfl, _, rfl, du, _, _, _, rfl, rfl, SqL.of hduD, intL_at (by omega), _, _, rfl, rfl, _, rfl, _, _, rfl, rfl, cpow1 (by omega) (by omega), _, _, rfl, rfl, _, rfl, rfl, ?_⟩
  have fin := k HD D.2 (by omega) pc2 (cpre.trans dpre) (hpC.news sD) (hlC.news sD) (drC.news sD) fun b o e h1 h2 h3 h4 => sD _ _ (sC _ _ (fB _ _ (fA _ _ (f9 _ _ (s8 _ _ (s7 _ _ (f6 _ _ (f5 _ _ (fr4 _ _ e h1) h3 h4) h2))) h3 h4) h2) h2))
  rw [dev, evs_getD, evs_getD, Int.toNat_natCast, Int.one_mul]
  have ed : decide (V.int (if (2 : Int) ^ n ≤ evAt n (envOf ws) rs x + evAt n (envOf ws) rs y then 1 else 0) = V.int (if decide ((2 : Int) ^ n ≤ evAt n (envOf ws) rs x + evAt n (envOf ws) rs y) = true then 1 else 0)) = true := by
    by_cases h : (2 : Int) ^ n ≤ evAt n (envOf ws) rs x + evAt n (envOf ws) rs y
    · rw [if_pos h, if_pos (decide_eq_true h)]; exact decide_eq_true rfl
    · rw [if_neg h, if_neg (fun z => h (of_decide_eq_true z))]; exact decide_eq_true rfl
  rw [ed]
  exact fin
end
end My

/-! LO -/
namespace My
open PySem L2
local macro_rules | `(tactic| walk_at "side") => `(tactic| first | with_reducible rfl | assumption | rfl | decide | omega | exact cpow1 (by omega) (by omega) | exact cdiv (by omega) (by omega) | exact two_pos _ | exact SqL.of (by assumption) | exact SqT.of (by assumption) | exact TyX.base (TyOf.int _) | exact TyX.base (TyOf.bl _) | exact TyX.base TyOf.non | exact scal_opt _ _ | exact k_ii | exact k_bi | exact k_ni | exact k_ib | exact k_bb | exact TyX.base (TyOf.lst (by assumption)) | exact k_ll | exact k_lt)
local macro_rules | `(tactic| walk_at "p") => `(tactic| repeat (first | refine And.intro (by walk_at "side") ?_ | apply Exists.intro | refine iteN (by assumption) ?_ | refine iteP (by assumption) ?_ | refine iteN (by decide) ?_ | refine iteP (by decide) ?_))

theorem mkFacts {C : Addr} {H1 H2 : Hp} {x dx l d : Addr} (hx : H1 x = none) (hdx : H1 dx = none) (hl : upd (upd H1 dx (.own x)) x (.ins C dx []) l = none) (hd : upd (upd H1 dx (.own x)) x (.ins C dx []) d = none)
    (f : ∀ b o, upd (upd H1 dx (.own x)) x (.ins C dx []) b = some o → b ≠ x → H2 b = some o) : Same H1 H2 ∧ H1 l = none ∧ H1 d = none := by
  have none_of : ∀ b : Addr, upd (upd H1 dx (.own x)) x (.ins C dx []) b = none → H1 b = none := fun b e => by
    by_cases h1 : b = x
    · subst h1; exact hx
    · rw [upd_ne h1] at e
      by_cases h2 : b = dx
      · subst h2; exact hdx
      · rw [upd_ne h2] at e; exact e
  refine ⟨fun b o e => ?_, none_of l hl, none_of d hd⟩
  have h1 : b ≠ x := ne_of_none e hx
  have h2 : b ≠ dx := ne_of_none e hdx
  exact f b o (by rw [upd_ne h1, upd_ne h2]; exact e) h1
theorem shI (i : Int) : SeqAt.shaped (.int i) = true := by simp [SeqAt.shaped, PyData.canLay0, PyData.depth]
theorem eqvI (i j : Int) : PyData.eqv (.int i) (.int j) = decide (i = j) := by
  have : (i == j) = decide (i = j) := by cases h : decide (i = j) <;> simp_all
  simp [PyData.eqv, this]
theorem eqI2 {K : PySem.W.Frag} {H : Hp} {i j : Int} {Q : VK} (k : Q (.bl (decide (i = j))) H) : rEqD K (.int i) (.int j) H Q := ⟨_, _, .int i, .int j, shI i, shI j, by rw [show PyData.eqv (.int i) (.int j) = decide (i = j) from eqvI i j]; exact k⟩
theorem neI2 {K : PySem.W.Frag} {H : Hp} {i j : Int} {Q : VK} (k : Q (.bl (!decide (i = j))) H) : rNeD K (.int i) (.int j) H Q := ⟨_, _, .int i, .int j, shI i, shI j, by rw [show PyData.eqv (.int i) (.int j) = decide (i = j) from eqvI i j]; exact k⟩
theorem LInv.rowIn {W w : Nat} {env : Int → Int} {rs : List Part} {j : Nat} {st : List Part × List Nat} (I : LInv W w env rs j st) {r : Part} (ha : Ahead j r) (hr : PartOk W r) : RowIn W st.1 r st.2 := by
  refine ⟨fun o a b e => ?_, fun k hk => ?_, hr⟩
  · subst e; rw [I.len]; exact ha
  · obtain ⟨i, hi, e⟩ := List.getElem_of_mem hk
    have := (I.at' i (by rw [← I.len]; exact hi)).1
    rw [List.getD_eq_getElem?_getD, List.getElem?_eq_getElem hi] at this
    rw [← e]; exact this
theorem lPart_rows {N n u : Nat} (n1 : 1 ≤ n) (nN : n ≤ N) {st : List Part × List Nat} (h : Rows N u false st.1) {r : Part} (hin : RowIn N st.1 r st.2) (hu : ∀ g, r = .get g → g < u) : Rows N u false (lPart N n st.1 r st.2).2 := by
  have N1 : 1 ≤ N := by omega
  cases r with
  | num v => exact rows_mk h (rowOk_num hin.ok)
  | get g => exact rows_mk h ⟨trivial, hin.ok, fun g' e => by cases e; exact hu _ rfl, fun e => by cases e⟩
  | op o a b =>
    obtain ⟨ha, hb⟩ := hin.ahead o a b rfl
    have ax := hin.at ha
    have bx := hin.at hb
    have A := rows_mApply N1 h (o := o) ax bx (fun e => by cases e)
    have A3 := mApply_lt (w := N) (o := o) ax bx
    show Rows N u false (mLift N n st.1 o (st.2.getD a 0) (st.2.getD b 0)).2
    unfold mLift
    have pn := pow_pos' n
    have pl := pow_le' nN
    generalize mApply N st.1 o (st.2.getD a 0) (st.2.getD b 0) = x at *
    have N2 := (mk_pre x.2 (.num (2 ^ n - 1))).length_le
    have N3 := mk_lt x.2 (.num (2 ^ n - 1))
    split
    · exact rows_mApply N1 (rows_mk A (rowOk_num ⟨by omega, by omega⟩)) (by omega) N3 (fun e => by cases e)
    · exact A
theorem lAll_rows {N n u : Nat} (n1 : 1 ≤ n) (nN : n ≤ N) {env : Int → Int} (he : EnvG n env) {rs : List Part} (hr : Rows n u false rs) : ∀ j, j ≤ rs.length → Rows N u false (lAll N n (rs.take j)).1
  | 0, _ => rows_nil _ _ _
  | j + 1, h => by
    obtain ⟨r, e⟩ : ∃ r, rs[j]? = some r := ⟨_, List.getElem?_eq_getElem (by omega)⟩
    have I := lInv_all n1 nN he hr.ok j (by omega)
    have rk := rowOk_at hr e
    have pl := pow_le' nN
    rw [take_snoc e, lAll_snoc]
    refine lPart_rows n1 nN (lAll_rows n1 nN he hr j (by omega)) (I.rowIn rk.1 ?_) rk.2.2.1
    have := rk.2.1
    cases r with
    | num v => exact ⟨this.1, Int.lt_of_lt_of_le this.2 pl⟩
    | get i => exact this
    | op o x y => trivial
section
variable {P : Program} {w : World} {K : PySem.W.Frag} {mg : Str → Option Value} {base : Heap}
def sp_law_lifted_told (T : Txt K mg) : Sp := fun vs H Q _ => ∃ (a l d : Addr) (n : Nat) (ps : List Part) (s : Str) (x y wd : V), vs = [.ref a, .str s, x, y, wd] ∧ PoolAt T.C H a l d n ps ∧ ps.length ≤ 3990 ∧ 1 ≤ n ∧ n ≤ 12 ∧
  (((∀ o : Op, s ≠ o.s) ∧ ∀ H', Same H H' → Q (.str s) H') ∨
   (∃ o : Op, s = o.s ∧ plainV x = true ∧ goodP ps.length x = false ∧ ∀ H', Same H H' → Q (.str "part") H') ∨
   (∃ (o : Op) (i : Nat), s = o.s ∧ x = .int i ∧ i < ps.length ∧ plainV y = true ∧ goodP ps.length y = false ∧ ∀ H', Same H H' → Q (.str "part") H') ∨
   (∃ (o : Op) (i j : Nat), s = o.s ∧ x = .int i ∧ y = .int j ∧ i < ps.length ∧ j < ps.length ∧ plain4 wd = true ∧ inB 1 n wd = false ∧ ∀ H', Same H H' → Q (.str "width") H'))
theorem sp_law_lifted_told_len {T : Txt K mg} {vs H Q E} (h : sp_law_lifted_told T vs H Q E) : vs.length = 5 := by obtain ⟨_, _, _, _, _, _, _, _, _, rfl, _⟩ := h; rfl
theorem ok_law_lifted_told (T : Txt K mg) : FnOk P w K mg base CX0 6 T.f_law_lifted_told T.fd_law_lifted_told ["_law_pool", "_law_name", "_law_one", "_law_other", "_law_width"] (sp_law_lifted_told T) := by
  have G_lifted := ok_lifted (P := P) (w := w) (base := base) T
  refine T.F_law_lifted_told.ok sc_law_lifted_told (fun vs H Q E h => sp_law_lifted_told_len h) (fun cdv A outer s H vs Q E hr h => ?_)
  obtain ⟨a, l, d, n, ps, s, x, y, wd, rfl, hp, hl, n1, n12, h⟩ := h
  refine ⟨_, (pss_cons (ps_set (i := 5) sc_law_lifted_told.nd rfl (Or.inl rfl) pe_str)
       (pss_cons (ps_try_mix (Wout := fun _ _ _ _ => False) rfl rfl sc_law_lifted_told.nd takes0
       (fun W pn xe tk _ => (pss_one (ps_expr (pe_callS G_lifted hr rfl T.g_lifted T.F_lifted.kp T.b_lifted (fun σ => passAt tk σ) (pa_cons (pv 0) (pa_cons (pv 1) (pa_cons (pv 2) (pa_cons (pv 3) (pa_cons (pv 4) pa_nil)))))))))
       (HdM.cons (o := some 6) ⟨rfl, by decide, Or.inl T.g_BadOp⟩ ⟨rfl, rfl⟩ (fun a oe cls d pn hz hf => (pss_one (ps_set (i := 5) sc_law_lifted_told.nd rfl (Or.inl rfl) (pe_xf T.xf_BadOp T.nf_BadOp hz hf (pv 6))))) (HdM.cons (o := none) ⟨rfl, by decide, Or.inl T.g_BadPart⟩ trivial (fun a oe cls d pn hz hf => (pss_one (ps_set (i := 5) sc_law_lifted_told.nd rfl (Or.inl rfl) pe_str))) (HdM.cons (o := some 6) ⟨rfl, by decide, Or.inl T.g_BadNumber⟩ ⟨rfl, rfl⟩ (fun a oe cls d pn hz hf => (pss_one (ps_set (i := 5) sc_law_lifted_told.nd rfl (Or.inl rfl) (pe_xf T.xf_BadNumber T.nf_BadNumber hz hf (pv 6))))) HdM.nil))))
       (pss_one (ps_ret (pv 5))))), ?_⟩
  have hl1 : ("op" : Str) = "op" := rfl
  refine ⟨_, rfl, _, rfl, _, rfl, _, rfl, _, rfl, a, l, d, n, ps, s, x, y, wd, rfl, hp, hl, n1, n12, ?_⟩
  rcases h with ⟨no, k⟩ | ⟨o, e, hx, gx, k⟩ | ⟨o, i, e, rfl, hi, hy, gy, k⟩ | ⟨o, i, j, e, rfl, rfl, hi, hj, hw, bw, k⟩
  · refine .inr (.inl ⟨no, fun H' b s1 hb => ?_⟩)
    exact ⟨true, T.te_BadOp, fun _ c hc => ⟨_, rfl, rfl, rfl, b, _, _, rfl, upd_same, by rw [lk, if_pos rfl], ⟨_, rfl, k _ (s1.trans (same_new hb))⟩⟩, fun z => by cases z⟩
  · refine .inr (.inr (.inl ⟨o, e, hx, gx, fun H' s1 => ?_⟩))
    exact ⟨false, T.tf_BadPart_BadOp, (fun z => by cases z), fun _ => ⟨true, T.te_BadPart, fun _ c hc => ⟨_, rfl, k _ s1⟩, fun z => by cases z⟩⟩
  · refine .inr (.inr (.inr (.inl ⟨o, i, e, rfl, hi, hy, gy, fun H' s1 => ?_⟩)))
    exact ⟨false, T.tf_BadPart_BadOp, (fun z => by cases z), fun _ => ⟨true, T.te_BadPart, fun _ c hc => ⟨_, rfl, k _ s1⟩, fun z => by cases z⟩⟩
  · refine .inr (.inr (.inr (.inr ⟨o, i, j, e, rfl, rfl, hi, hj, hw, bw, fun H' b s1 hb => ?_⟩)))
    exact ⟨false, T.tf_BadNumber_BadOp, (fun z => by cases z), fun _ => ⟨false, T.tf_BadNumber_BadPart, (fun z => by cases z), fun _ => ⟨true, T.te_BadNumber, fun _ c hc => ⟨_, rfl, rfl, rfl, b, _, _, rfl, upd_same, by rw [lk, if_pos rfl], ⟨_, rfl, k _ (s1.trans (same_new hb))⟩⟩, fun z => by cases z⟩⟩⟩
def sp_law_lifted_well (T : Txt K mg) : Sp := fun vs H Q _ => ∃ (p q R W : Addr) (n u : Nat) (rs : List Part) (ws : List Int), vs = [.ref p, .ref R, .ref W, .int n] ∧ Dr H p q ∧ p ≠ q ∧ LAt H R rs ∧ R ≠ p ∧ Rows n u false rs ∧ 1 ≤ n ∧ n ≤ 8 ∧ 2 ≤ rs.length ∧ rs.length < 60 ∧
  H W = some (.lst (intL ws)) ∧ ws.length = u ∧ (∀ x ∈ ws, 0 ≤ x ∧ x < 2 ^ n) ∧ W ≠ p ∧ ∀ H', Dr H' p q → Fr p H H' → Q (.bl true) H'
theorem sp_law_lifted_well_len {T : Txt K mg} {vs H Q E} (h : sp_law_lifted_well T vs H Q E) : vs.length = 4 := by obtain ⟨_, _, _, _, _, _, _, _, rfl, _⟩ := h; rfl
theorem ok_law_lifted_well (T : Txt K mg) : FnOk P w K mg base CX0 7 T.f_law_lifted_well T.fd_law_lifted_well ["_law_draws_here", "_law_rows", "_law_words", "_law_width"] (sp_law_lifted_well T) := by
  have G_p_iter := ok_p_iter (P := P) (w := w) (base := base) T; have G_p_len := ok_p_len (P := P) (w := w) (base := base) T; have G_p_value := ok_p_value (P := P) (w := w) (base := base) T; have G_p_init := ok_p_init (P := P) (w := w) (base := base) T; have G_law_apply := ok_law_apply (P := P) (w := w) (base := base) T; have G_law_asked := ok_law_asked (P := P) (w := w) (base := base) T; have G_law_is_int := ok_law_is_int (P := P) (w := w) (base := base) T; have G_law_keep := ok_law_keep (P := P) (w := w) (base := base) T; have G_law_lifted_told := ok_law_lifted_told (P := P) (w := w) (base := base) T; have G_law_row_words := ok_law_row_words (P := P) (w := w) (base := base) T; have G_law_take := ok_law_take (P := P) (w := w) (base := base) T; have G_lifted := ok_lifted (P := P) (w := w) (base := base) T
  refine T.F_law_lifted_well.ok sc_law_lifted_well (fun vs H Q E h => sp_law_lifted_well_len h) (fun cdv A outer s H vs Q E hr h => ?_)
  obtain ⟨p, q, R, W, n, u, rs, ws, rfl, dr, pq, hR, Rp, ro, n1, n8, r2, r60, hW, wl, gws, Wp, k⟩ := h
  have sz : sizeLine = 16777216 := sizeLine_eq
  refine ⟨_, (pss_cons (ps_set (i := 4) sc_law_lifted_well.nd rfl (Or.inl rfl) (pe_op op_add (pv 3) (pe_call G_law_take (hr.mono (by decide)) rfl T.g_law_take T.F_law_take.kp T.b_law_take .nil pass0 (pa_cons (pv 0) (pa_cons pe_int pa_nil)))))
       (pss_cons (ps_set (i := 5) sc_law_lifted_well.nd rfl (Or.inl rfl) (pe_make T.M_Pool G_p_init hr rfl T.g_Pool T.b_p_init .nil pass0 (pa_cons (pv 4) pa_nil)))
       (pss_cons (ps_set (i := 6) sc_law_lifted_well.nd rfl (Or.inl rfl) (pe_lst pa_nil))
       (pss_cons (ps_set (i := 7) sc_law_lifted_well.nd rfl (Or.inl rfl) (pe_lst pa_nil))
       (pss_cons (ps_for PassesOwn.never rfl (pi_list (pv 1)) (pg_name (i := 8) sc_law_lifted_well.nd rfl (Or.inl rfl))
        (Evl.pss_cut (ps_if (PW.pt (pw_or (pt_cmpR op_eq (pe_ix ix_tup (pv 8) pe_int (fun _ _ => rfl)) pe_str (nomark _)) (pw_or1 (pt_cmpR op_eq (pe_ix ix_tup (pv 8) pe_int (fun _ _ => rfl)) pe_str (nomark _)))))
        (pss_cons (ps_set (i := 9) sc_law_lifted_well.nd rfl (Or.inl rfl) (pe_call G_law_keep (hr.mono (by decide)) rfl T.g_law_keep T.F_law_keep.kp T.b_law_keep .nil pass0 (pa_cons (pv 6) (pa_cons (pv 8) pa_nil))))
       (pss_one (ps_set (i := 10) sc_law_lifted_well.nd rfl (Or.inl rfl) (pe_call G_law_asked (hr.mono (by decide)) rfl T.g_law_asked T.F_law_asked.kp T.b_law_asked .nil passL (pa_cons (pv 5) (pa_cons (pv 8) (pa_cons (pv 7) pa_nil)))))))
        (pss_cons (ps_set (i := 9) sc_law_lifted_well.nd rfl (Or.inl rfl) (pe_call G_law_apply (hr.mono (by decide)) rfl T.g_law_apply T.F_law_apply.kp T.b_law_apply .nil pass0 (pa_cons (pv 6) (pa_cons (pv 4) (pa_cons (pe_ix ix_tup (pv 8) pe_int (fun _ _ => rfl)) (pa_cons (pe_ix ix_list (pv 7) (pe_ix ix_tup (pv 8) pe_int (fun _ _ => rfl)) (fun _ _ => rfl)) (pa_cons (pe_ix ix_list (pv 7) (pe_ix ix_tup (pv 8) pe_int (fun _ _ => rfl)) (fun _ _ => rfl)) pa_nil)))))))
       (Evl.pss_cut (ps_if (PW.pt (pw_or (pt_cmpR op_eq (pe_ix ix_tup (pv 8) pe_int (fun _ _ => rfl)) pe_str (nomark _)) (pw_or1 (pt_cmpR op_eq (pe_ix ix_tup (pv 8) pe_int (fun _ _ => rfl)) pe_str (nomark _)))))
        (pss_one (ps_set (i := 9) sc_law_lifted_well.nd rfl (Or.inl rfl) (pe_call G_law_apply (hr.mono (by decide)) rfl T.g_law_apply T.F_law_apply.kp T.b_law_apply .nil pass0 (pa_cons (pv 6) (pa_cons (pv 4) (pa_cons pe_str (pa_cons (pv 9) (pa_cons (pe_call G_law_keep (hr.mono (by decide)) rfl T.g_law_keep T.F_law_keep.kp T.b_law_keep .nil pass0 (pa_cons (pv 6) (pa_cons (pe_tup (pa_cons pe_str (pa_cons (pe_op op_sub (pe_op op_shl pe_int (pv 3)) pe_int) pa_nil))) pa_nil))) pa_nil))))))))
        pss_nil)
       (pss_one (ps_set (i := 10) sc_law_lifted_well.nd rfl (Or.inl rfl) (pe_call G_lifted (hr.mono (by decide)) rfl T.g_lifted T.F_lifted.kp T.b_lifted .nil passL (pa_cons (pv 5) (pa_cons (pe_ix ix_tup (pv 8) pe_int (fun _ _ => rfl)) (pa_cons (pe_ix ix_list (pv 7) (pe_ix ix_tup (pv 8) pe_int (fun _ _ => rfl)) (fun _ _ => rfl)) (pa_cons (pe_ix ix_list (pv 7) (pe_ix ix_tup (pv 8) pe_int (fun _ _ => rfl)) (fun _ _ => rfl)) (pa_cons (pv 3) pa_nil)))))))))))
       (pss_cons (ps_if (PW.pt (pw_or (pt_not (pt_val (pe_call G_law_is_int (hr.mono (by decide)) rfl T.g_law_is_int T.F_law_is_int.kp T.b_law_is_int .nil pass0 (pa_cons (pv 10) pa_nil)))) (pw_or (pt_cmpR op_ne (pv 10) (pv 9) (nomark _)) (pw_or1 (pt_cmpR (op_neD hr.units) (pe_callTy (call_listOwn2 T.m_p_iter.1 T.m_p_iter.2 T.m_p_len.1 (beq_iff_eq.mp T.m_p_len.2) G_p_iter T.b_p_iter G_p_len T.b_p_len rfl (hr.mono (by decide))) (by rfl) T.n_list (by decide +kernel) (pa_cons (pv 5) pa_nil)) (pv 6) (nomark _))))))
        (pss_one (ps_ret pe_bl))
        pss_nil)
       (pss_one (ps_expr (pe_bm PySem.F.plainAttrs_list PySem.F.slot_list_append PySem.F.type_list_append mt_append (pv 7) (pa_cons (pv 9) pa_nil)))))))
       (pss_cons (ps_set (i := 9) sc_law_lifted_well.nd rfl (Or.inl rfl) (pe_call G_law_row_words (hr.mono (by decide)) rfl T.g_law_row_words T.F_law_row_words.kp T.b_law_row_words .nil pass0 (pa_cons (pv 1) (pa_cons (pv 2) (pa_cons (pv 3) pa_nil)))))
       (pss_cons (ps_for PassesOwn.never rfl (pi_range1 (by rfl) T.n_range (pa_cons (pe_callB call_lenL (by rfl) T.n_len (by decide +kernel) (pa_cons (pv 1) pa_nil)) pa_nil)) (pg_name (i := 11) sc_law_lifted_well.nd rfl (Or.inl rfl))
        (pss_one (ps_if (pt_cmpR op_ne (pe_meth (pv 5) T.cl T.m_p_value G_p_value hr T.b_p_value .nil passL (pa_cons (pe_ix ix_list (pv 7) (pv 11) (fun _ _ => rfl)) (pa_cons (pv 2) pa_nil))) (pe_ix ix_list (pv 9) (pv 11) (fun _ _ => rfl)) (nomark _))
        (pss_one (ps_ret pe_bl))
        pss_nil)))
       (pss_cons (ps_set (i := 12) sc_law_lifted_well.nd rfl (Or.inl rfl) (pe_ix ix_list (pe_lst (pa_cons (pe_un un_neg pe_int) (pa_cons (pe_callB call_lenL (by rfl) T.n_len (by decide +kernel) (pa_cons (pv 6) pa_nil)) (pa_cons pe_non (pa_cons pe_bl pa_nil))))) (pe_call G_law_take (hr.mono (by decide)) rfl T.g_law_take T.F_law_take.kp T.b_law_take .nil pass0 (pa_cons (pv 0) (pa_cons pe_int pa_nil))) (fun _ _ => rfl)))
       (pss_cons (ps_set (i := 3) sc_law_lifted_well.nd rfl (Or.inl rfl) (pe_ix ix_list (pe_lst (pa_cons pe_int (pa_cons (pe_op op_add (pv 4) pe_int) (pa_cons pe_non (pa_cons pe_str (pa_cons pe_bl pa_nil)))))) (pe_call G_law_take (hr.mono (by decide)) rfl T.g_law_take T.F_law_take.kp T.b_law_take .nil pass0 (pa_cons (pv 0) (pa_cons pe_int pa_nil))) (fun _ _ => rfl)))
       (pss_cons (ps_if (pt_cmpR op_ne (pe_call G_law_lifted_told hr rfl T.g_law_lifted_told T.F_law_lifted_told.kp T.b_law_lifted_told .nil pass0 (pa_cons (pv 5) (pa_cons pe_str (pa_cons (pv 12) (pa_cons pe_int (pa_cons (pv 3) pa_nil)))))) pe_str (nomark _))
        (pss_one (ps_ret pe_bl))
        pss_nil)
       (pss_cons (ps_if (pt_cmpR op_ne (pe_call G_law_lifted_told hr rfl T.g_law_lifted_told T.F_law_lifted_told.kp T.b_law_lifted_told .nil pass0 (pa_cons (pv 5) (pa_cons pe_str (pa_cons (pv 12) (pa_cons pe_int (pa_cons (pv 3) pa_nil)))))) pe_str (nomark _))
        (pss_one (ps_ret pe_bl))
        pss_nil)
       (pss_cons (ps_if (PW.pt (pw_or (pt_cmpR op_ne (pe_call G_law_lifted_told hr rfl T.g_law_lifted_told T.F_law_lifted_told.kp T.b_law_lifted_told .nil pass0 (pa_cons (pv 5) (pa_cons pe_str (pa_cons pe_int (pa_cons (pv 12) (pa_cons (pv 3) pa_nil)))))) pe_str (nomark _)) (pw_or1 (pt_cmpR op_ne (pe_call G_law_lifted_told hr rfl T.g_law_lifted_told T.F_law_lifted_told.kp T.b_law_lifted_told .nil pass0 (pa_cons (pv 5) (pa_cons pe_str (pa_cons pe_int (pa_cons pe_int (pa_cons (pv 3) pa_nil)))))) pe_str (nomark _)))))
        (pss_one (ps_ret pe_bl))
        pss_nil)
       (pss_one (ps_ret (pe_cmpR (op_eqD hr.units) (pe_callTy (call_listOwn2 T.m_p_iter.1 T.m_p_iter.2 T.m_p_len.1 (beq_iff_eq.mp T.m_p_len.2) G_p_iter T.b_p_iter G_p_len T.b_p_len rfl (hr.mono (by decide))) (by rfl) T.n_list (by decide +kernel) (pa_cons (pv 5) pa_nil)) (pv 6) (nomark _)))))))))))))))), ?_⟩
  -- wide
  refine ⟨_, rfl, _, rfl, p, q, _, rfl, dr, pq, by decide, fun H1 v v0 v1 d1 k1 => ⟨_, _, rfl, rfl, ?_⟩⟩
  obtain ⟨δ, rfl⟩ := Int.eq_ofNat_of_zero_le v0
  show gName 4 (V.int (((n + δ : Nat) : Nat) : Int)) _ _ _
  generalize hN : n + δ = N
  have nN : n ≤ N := by omega
  have N12 : N ≤ 12 := by omega
  have N1 : 1 ≤ N := by omega
  obtain ⟨tsR, hR0, _⟩ := id hR
  have hR1 : LAt H1 R rs := by
    obtain ⟨_, _, h1, _⟩ := id dr
    exact hR.but h1 Rp k1
  have hW1 := k1 _ _ hW Wp
  -- the pool
  refine ⟨_, rfl, fun a dxa ha hdxa hne => ⟨a, dxa, N, rfl, upd_same, N1, N12, fun H2 l d hl hd ld hp2 f2 => ⟨rfl, ?_⟩⟩⟩
  obtain ⟨s2, hl, hd⟩ := mkFacts ha hdxa hl hd f2
  -- parts, places
  refine ⟨Nat.zero_le _, fun L hL => ?_⟩
  have s3' := same_new (o := .lst []) hL
  have hLL : upd H2 L (.lst []) L = some (.lst []) := upd_same
  have L1N : H1 L = none := s2.free hL
  have Ll : L ≠ l := by
    obtain ⟨_, e, _⟩ := id hp2.lst
    intro z; rw [z, e] at hL; cases hL
  have hp3 := hp2.news s3'
  have s3 := s2.trans s3'
  generalize upd H2 L (.lst []) = H3 at s3 hLL hp3 ⊢
  refine ⟨Nat.zero_le _, fun Pl hPl => ?_⟩
  have s4' := same_new (o := .lst []) hPl
  have hPL : upd H3 Pl (.lst []) Pl = some (.lst []) := upd_same
  have P1N : H1 Pl = none := s3.free hPl
  have Pll : Pl ≠ l := by
    obtain ⟨_, e, _⟩ := id hp3.lst
    intro z; rw [z, e] at hPl; cases hPl
  have PlL : Pl ≠ L := by intro z; rw [z, hLL] at hPl; cases hPl
  have Pld : Pl ≠ d := by intro z; rw [z, hp3.dic] at hPl; cases hPl
  have hp4 := hp3.news s4'
  have hL4 := s4' _ _ hLL
  have s4 := s3.trans s4'
  generalize upd H3 Pl (.lst []) = H4 at s4 hPL hp4 hL4 ⊢
  have ge := env_of gws
  have pn := pow_pos' n
  have pl := pow_le' nN
  obtain ⟨xs, hX, ex, hit⟩ := hR1.item
  refine ⟨_, rfl, R, rfl, ⟨_, SqL.of (s4 _ _ hX)⟩, ?_⟩
  refine for_list (K := K) (a := R) (xs := xs) (fun j σ' H5 => ∃ v8 v9 v10 : Option V, σ' = [some (.ref p), some (.ref R), some (.ref W), some (.int (n : Nat)), some (.int (N : Nat)), some (.ref a), some (.ref L), some (.ref Pl), v8, v9, v10, none, none] ∧ PoolAt T.C H5 a l d N (lAll N n (rs.take j)).1 ∧ LAt H5 L (lAll N n (rs.take j)).1 ∧ H5 Pl = some (.lst (natL (lAll N n (rs.take j)).2)) ∧ Same H1 H5)
    ⟨none, none, none, rfl, hp4, ⟨[], hL4, rfl, fun i q e => by have e' : ([] : List Part)[i]? = some q := e; simp at e'⟩, hPL, s4⟩ ?_ ?_ ?_
  · rintro j σ' H5 _ ⟨_, _, _, _, _, _, _, s5⟩
    exact SqL.of (s5 _ _ hX)
  · rintro j z σ' H5 hj ⟨v8, v9, v10, rfl, hp5, hl5, hP5, s5⟩
    have hjl := (List.getElem?_eq_some_iff.mp hj).1
    obtain ⟨r, hr'⟩ : ∃ r, rs[j]? = some r := ⟨_, List.getElem?_eq_getElem (by omega)⟩
    obtain ⟨t, ht, hT⟩ := hit j r hr'
    rw [hj] at ht
    cases ht
    have I := lInv_all n1 nN ge ro.ok j (by omega)
    have es : lAll N n (rs.take (j + 1)) = lStep N n (lAll N n (rs.take j)) r := by rw [take_snoc hr', lAll_snoc]
    have G := lift_step n1 nN ge ro.ok hr' I
    have glen := G.len
    have glt := G.lt
    have ilen := I.len
    have iplen := I.plen
    have rk := rowOk_at ro hr'
    have hin : RowIn N (lAll N n (rs.take j)).1 r (lAll N n (rs.take j)).2 := I.rowIn rk.1 (by
      have := rk.2.1
      cases r with
      | num v => exact ⟨this.1, Int.lt_of_lt_of_le this.2 pl⟩
      | get i => exact this
      | op o x y => trivial)
    have hT5 := s5 _ _ hT
    obtain ⟨tsl, hlL5, _⟩ := id hp5.lst
    have hdd5 := hp5.dic
    obtain ⟨tsL, hLL5, _⟩ := id hl5
    have none_of : ∀ b o, H1 b = some o → b ≠ l ∧ b ≠ d ∧ b ≠ L ∧ b ≠ Pl := fun b o e => ⟨fun z => (by rw [z, hl] at e; cases e), fun z => (by rw [z, hd] at e; cases e), fun z => (by rw [z, L1N] at e; cases e), fun z => (by rw [z, P1N] at e; cases e)⟩
    have tl : t ≠ l := (none_of _ _ hT).1
    have td : t ≠ d := (none_of _ _ hT).2.1
    have tL : t ≠ L := (none_of _ _ hT).2.2.1
    have tP : t ≠ Pl := (none_of _ _ hT).2.2.2
    generalize hM : lPart N n (lAll N n (rs.take j)).1 r (lAll N n (rs.take j)).2 = M at *
    have e1 : (lAll N n (rs.take (j + 1))).1 = M.2 := by rw [es, ← hM]; rfl
    have e2 : (lAll N n (rs.take (j + 1))).2 = (lAll N n (rs.take j)).2 ++ [M.1] := by rw [es, ← hM]; rfl
    rw [e1, e2]
    -- due, told
    refine ⟨fun σ' H6 => σ' = [some (.ref p), some (.ref R), some (.ref W), some (.int (n : Nat)), some (.int (N : Nat)), some (.ref a), some (.ref L), some (.ref Pl), some (.ref t), some (.int (M.1 : Nat)), some (.int (M.1 : Nat)), none, none] ∧ PoolAt T.C H6 a l d N M.2 ∧ LAt H6 L M.2 ∧ H6 Pl = some (.lst (natL (lAll N n (rs.take j)).2)) ∧ Same H1 H6, ?_, ?_⟩
    · refine ⟨_, rfl, t, _, 0, _, rfl, rfl, SqT.of hT5, tag0 r, rfl, _, rfl, ?_⟩
      have two : ∀ x : Part, mPart N (lAll N n (rs.take j)).1 r (lAll N n (rs.take j)).2 = M → x = r → mk (lAll N n (rs.take j)).1 x = M → LMade H5 L M fun v H6 => v = .int (M.1 : Nat) ∧ LAt H6 L M.2 ∧ ∀ b o, H5 b = some o → b ≠ L → H6 b = some o := fun x _ _ _ H6 h1 h2 => ⟨rfl, h1, h2⟩
      cases r with
      | get i =>
        have hM' : mk (lAll N n (rs.take j)).1 (.get i) = M := hM
        refine iteP (dT rfl) (iteP rfl ?_)
        refine ⟨_, rfl, _, rfl, L, t, _, .get i, rfl, hl5, hT5, by omega, ?_⟩
        rw [hM']
        intro H6 hl6 f6
        have hp6 := hp5.but hLL5 Ll.symm f6
        refine ⟨_, rfl, _, rfl, _, rfl, a, l, d, t, Pl, _, N, .get i, _, rfl, hp6, by omega, N12, f6 _ _ hT5 tL, f6 _ _ hP5 PlL, hin, ?_⟩
        rw [show mPart N (lAll N n (rs.take j)).1 (.get i) (lAll N n (rs.take j)).2 = M from hM']
        intro H7 hp7 f7
        obtain ⟨_, hlL6, _⟩ := id hp6.lst
        exact ⟨rfl, hp7, hl6.but2 hlL6 hp6.dic Ll f7, f7 _ _ (f6 _ _ hP5 PlL) Pll Pld, fun b o e => f7 _ _ (f6 _ _ (s5 _ _ e) (none_of _ _ e).2.2.1) (none_of _ _ e).1 (none_of _ _ e).2.1⟩
      | num i =>
        have hM' : mk (lAll N n (rs.take j)).1 (.num i) = M := hM
        refine iteN num_get_f ?_
        refine ⟨_, rfl, t, _, 0, _, rfl, rfl, SqT.of hT5, rfl, rfl, _, rfl, iteP (dT rfl) ?_⟩
        refine ⟨_, rfl, _, rfl, L, t, _, .num i, rfl, hl5, hT5, by omega, ?_⟩
        rw [hM']
        intro H6 hl6 f6
        have hp6 := hp5.but hLL5 Ll.symm f6
        refine ⟨_, rfl, _, rfl, _, rfl, a, l, d, t, Pl, _, N, .num i, _, rfl, hp6, by omega, N12, f6 _ _ hT5 tL, f6 _ _ hP5 PlL, hin, ?_⟩
        rw [show mPart N (lAll N n (rs.take j)).1 (.num i) (lAll N n (rs.take j)).2 = M from hM']
        intro H7 hp7 f7
        obtain ⟨_, hlL6, _⟩ := id hp6.lst
        exact ⟨rfl, hp7, hl6.but2 hlL6 hp6.dic Ll f7, f7 _ _ (f6 _ _ hP5 PlL) Pll Pld, fun b o e => f7 _ _ (f6 _ _ (s5 _ _ e) (none_of _ _ e).2.2.1) (none_of _ _ e).1 (none_of _ _ e).2.1⟩
      | op o x y =>
        obtain ⟨hx, hy⟩ := hin.ahead o x y rfl
        have ax := hin.at hx
        have ay := hin.at hy
        refine iteN (op_get_f o) ?_
        refine ⟨_, rfl, t, _, 0, _, rfl, rfl, SqT.of hT5, rfl, rfl, _, rfl, iteN (op_num_f o) ?_⟩
        have hM' : mLift N n (lAll N n (rs.take j)).1 o ((lAll N n (rs.take j)).2.getD x 0) ((lAll N n (rs.take j)).2.getD y 0) = M := hM
        generalize (lAll N n (rs.take j)).1 = ps at *
        generalize (lAll N n (rs.take j)).2 = pk at *
        refine ⟨_, rfl, _, rfl, _, rfl, t, _, 0, _, rfl, rfl, SqT.of hT5, rfl, _, rfl, _, rfl, t, _, 1, _, rfl, rfl, SqT.of hT5, rfl, Pl, _, _, _, rfl, rfl, SqL.of hP5, natL_at hx, _, rfl, _, rfl, t, _, 2, _, rfl, rfl, SqT.of hT5, rfl, Pl, _, _, _, rfl, rfl, SqL.of hP5, natL_at hy, ?_⟩
        have A1 := mApply_len N ps o (pk.getD x 0) (pk.getD y 0)
        have A3 := mApply_lt (w := N) (o := o) ax ay
        refine ⟨L, ps, N, o, _, _, rfl, hl5, by omega, N12, ax, ay, fun H6 hl6 f6 => ?_⟩
        have hp6 := hp5.but hLL5 Ll.symm f6
        have hT6 := f6 _ _ hT5 tL
        have hP6 := f6 _ _ hP5 PlL
        have s6 : Same H1 H6 := fun b o e => f6 _ _ (s5 _ _ e) (none_of _ _ e).2.2.1
        -- with a mask
        refine ⟨fun σ' H7 => σ' = [some (.ref p), some (.ref R), some (.ref W), some (.int (n : Nat)), some (.int (N : Nat)), some (.ref a), some (.ref L), some (.ref Pl), some (.ref t), some (.int (M.1 : Nat)), v10, none, none] ∧ PoolAt T.C H7 a l d N ps ∧ LAt H7 L M.2 ∧ H7 t = some (.tup (Part.op o x y).vals) ∧ H7 Pl = some (.lst (natL pk)) ∧ Same H1 H7, ?_, ?_⟩
        · unfold mLift at hM'
          generalize mApply N ps o (pk.getD x 0) (pk.getD y 0) = A at *
          have N1' := mk_len A.2 (.num (2 ^ n - 1))
          have N2 := (mk_pre A.2 (.num (2 ^ n - 1))).length_le
          have N3 := mk_lt A.2 (.num (2 ^ n - 1))
          have kp : ∀ qq, H6 qq = none → ∀ Q : VK, (∀ H7, LAt H7 L (mk A.2 (.num (2 ^ n - 1))).2 → (∀ b oo, H6 b = some oo → b ≠ L → H7 b = some oo) → Q (.int ((mk A.2 (.num (2 ^ n - 1))).1 : Nat)) H7) → sp_law_keep T [.ref L, .ref qq] (upd H6 qq (.tup [.str "num", .int (1 * 2 ^ (((n : Nat) : Int)).toNat - 1)])) Q E0 := fun qq hqq Q hQ => by
            have sq := same_new (o := .tup (Part.num (2 ^ n - 1)).vals) hqq
            have ev : [V.str "num", .int (1 * 2 ^ (((n : Nat) : Int)).toNat - 1)] = (Part.num (2 ^ n - 1)).vals := by rw [Int.one_mul, Int.toNat_natCast]; rfl
            rw [ev]
            exact ⟨L, qq, A.2, .num (2 ^ n - 1), rfl, hl6.news sq, upd_same, by omega, fun H7 hl7 f7 => hQ H7 hl7 fun b oo e hb => f7 _ _ (sq _ _ e) hb⟩
          have no : ¬ (o = .add ∨ o = .sub) → PoolAt T.C H6 a l d N ps ∧ LAt H6 L M.2 ∧ H6 t = some (.tup (Part.op o x y).vals) ∧ H6 Pl = some (.lst (natL pk)) ∧ Same H1 H6 := fun ho => by
            rw [if_neg ho] at hM'
            rw [← hM']
            exact ⟨hp6, hl6, hT6, hP6, s6⟩
          have s2' : (2 : Nat) ≤ sizeLine := by show 2 ≤ sizeLine; decide
          have noM : ¬ (o = .add ∨ o = .sub) → A.1 = M.1 := fun ho => by rw [if_neg ho] at hM'; rw [hM']
          by_cases ho : o = .add ∨ o = .sub
          · have last : ∀ Q : VK, (∀ v H8, (v = .int (M.1 : Nat) ∧ PoolAt T.C H8 a l d N ps ∧ LAt H8 L M.2 ∧ H8 t = some (.tup (Part.op o x y).vals) ∧ H8 Pl = some (.lst (natL pk)) ∧ Same H1 H8) → Q v H8) → ∀ qq, H6 qq = none → sp_law_keep T [.ref L, .ref qq] (upd H6 qq (.tup [.str "num", .int (1 * 2 ^ (((n : Nat) : Int)).toNat - 1)])) (fun v H7 => sp_law_apply T [.ref L, .int (N : Nat), .str "and", .int (A.1 : Nat), v] H7 Q E0) E0 := fun Q hQ qq hqq => by
              refine kp qq hqq _ fun H7 hl7 f7 => ?_
              obtain ⟨_, hLL6, _⟩ := id hl6
              obtain ⟨_, hLL7, _⟩ := id hl7
              have hp7 := hp6.but hLL6 Ll.symm f7
              refine ⟨L, _, N, .and, _, _, rfl, hl7, by omega, N12, by omega, N3, ?_⟩
              rw [if_pos ho] at hM'
              rw [hM']
              intro H8 hl8 f8
              exact hQ _ _ ⟨rfl, hp7.but hLL7 Ll.symm f8, hl8, f8 _ _ (f7 _ _ hT6 tL) tL, f8 _ _ (f7 _ _ hP6 PlL) PlL, fun b o e => f8 _ _ (f7 _ _ (s6 _ _ e) (none_of _ _ e).2.2.1) (none_of _ _ e).2.2.1⟩
            rcases ho with rfl | rfl
            · refine ⟨_, rfl, t, _, 0, _, rfl, rfl, SqT.of hT6, rfl, rfl, _, rfl, iteP (by decide +kernel) (iteP rfl ?_)⟩
              refine ⟨_, rfl, _, rfl, _, rfl, _, rfl, _, rfl, _, _, rfl, rfl, cpow1 (by omega) (by omega), _, _, rfl, rfl, s2', fun qq hqq => ?_⟩
              exact last _ (fun v H8 ⟨e, h⟩ => by rw [e]; exact ⟨rfl, h⟩) qq hqq
            · refine ⟨_, rfl, t, _, 0, _, rfl, rfl, SqT.of hT6, rfl, rfl, _, rfl, iteN (by decide +kernel) ?_⟩
              refine ⟨_, rfl, t, _, 0, _, rfl, rfl, SqT.of hT6, rfl, rfl, _, rfl, iteP (by decide +kernel) ?_⟩
              refine ⟨_, rfl, _, rfl, _, rfl, _, rfl, _, rfl, _, _, rfl, rfl, cpow1 (by omega) (by omega), _, _, rfl, rfl, s2', fun qq hqq => ?_⟩
              exact last _ (fun v H8 ⟨e, h⟩ => by rw [e]; exact ⟨rfl, h⟩) qq hqq
          · have n1' : ¬ decide (V.str o.s = V.str "add") = true := by cases o <;> first | (exact absurd (.inl rfl) ho) | decide +kernel
            have n2' : ¬ decide (V.str o.s = V.str "sub") = true := by cases o <;> first | (exact absurd (.inr rfl) ho) | decide +kernel
            refine ⟨_, rfl, t, _, 0, _, rfl, rfl, SqT.of hT6, rfl, rfl, _, rfl, iteN n1' ?_⟩
            refine ⟨_, rfl, t, _, 0, _, rfl, rfl, SqT.of hT6, rfl, rfl, _, rfl, iteN n2' ?_⟩
            exact ⟨congrArg (fun z : Nat => [some (V.ref p), some (.ref R), some (.ref W), some (.int (n : Nat)), some (.int (N : Nat)), some (.ref a), some (.ref L), some (.ref Pl), some (.ref t), some (.int (z : Nat)), v10, none, none]) (noM ho), no ho⟩
        rintro σ' H7 ⟨rfl, hp7, hl7, hT7, hP7, s7⟩
        refine ⟨_, rfl, _, rfl, t, _, 0, _, rfl, rfl, SqT.of hT7, rfl, _, rfl, _, rfl, t, _, 1, _, rfl, rfl, SqT.of hT7, rfl, Pl, _, _, _, rfl, rfl, SqL.of hP7, natL_at hx, _, rfl, _, rfl, t, _, 2, _, rfl, rfl, SqT.of hT7, rfl, Pl, _, _, _, rfl, rfl, SqL.of hP7, natL_at hy, _, rfl, ?_⟩
        refine ⟨a, l, d, N, ps, o.s, _, _, _, rfl, hp7, by omega, N1, N12, .inl ⟨o, _, _, n, rfl, rfl, rfl, rfl, ax, ay, n1, nN, ?_⟩⟩
        rw [hM']
        intro H8 hp8 f8
        obtain ⟨_, hlL7, _⟩ := id hp7.lst
        exact ⟨rfl, hp8, hl7.but2 hlL7 hp7.dic Ll f8, f8 _ _ hP7 Pll Pld, fun b o e => f8 _ _ (s7 _ _ e) (none_of _ _ e).1 (none_of _ _ e).2.1⟩
    rintro σ' H6 ⟨rfl, hp6, hl6, hP6, s6⟩
    refine ⟨_, rfl, _, rfl, rfl, _, rfl, iteN (by show ¬ (!true) = true; decide) ?_⟩
    refine ⟨_, rfl, _, rfl, rfl, _, rfl, iteN (by simp) ?_⟩
    obtain ⟨dx6, l', ys, o1, o2, o3, o4, o5⟩ := listFacts T hp6 (by omega)
    refine ⟨_, rfl, a, dx6, _, l', ys, rfl, o1, o2, o3, o4, fun g H7 hg s7 hg7 => ⟨_, rfl, neL (o5 g H7 s7 hg7) (hl6.news s7) ⟨_, rfl, iteN (by decide) ?_⟩⟩⟩
    have hp7 := hp6.news s7
    have hl7 := hl6.news s7
    have hP7 := s7 _ _ hP6
    obtain ⟨_, hLL7, _⟩ := id hl7
    have f : ∀ b o, H7 b = some o → b ≠ Pl → upd H7 Pl (.lst (natL (lAll N n (rs.take j)).2 ++ [.int (M.1 : Nat)])) b = some o := fun b o e hb => by rw [upd_ne hb]; exact e
    refine ⟨_, rfl, .inl ⟨rfl, _, SqL.of hP7⟩, _, rfl, Pl, _, _, rfl, rfl, hP7, by rw [natL_len]; omega, _, _, _, rfl, hp7.but hP7 Pll.symm f, hl7.but hP7 PlL.symm f, by rw [upd_same, natL_snoc], fun b o e => ?_⟩
    rw [upd_ne (ne_of_none e P1N)]
    exact s7 _ _ (s6 _ _ e)
  rintro σ' H5 ⟨v8, v9, v10, rfl, hp5, hl5, hP5, s5⟩
  rw [ex, List.take_length] at hp5 hl5 hP5
  have I := lInv_all n1 nN ge ro.ok rs.length (Nat.le_refl _)
  have hrw := lAll_rows n1 nN ge ro rs.length (Nat.le_refl _)
  rw [List.take_length] at I hrw
  generalize lAll N n rs = st at *
  have hW5 := s5 _ _ hW1
  have hR5 := hR1.news s5
  have iplen := I.plen
  have ilen := I.len
  have h0 : 0 < st.1.length := by have := (I.at' 0 (by omega)).1; omega
  refine ⟨_, rfl, _, rfl, _, rfl, R, W, n, u, rs, ws, rfl, hR5, hW5, ro.ok, fun k g e => (by rw [wl]; exact ro.gets k g e), by omega, by omega, fun H6 D s6 D0 hD => ?_⟩
  have el : (evs n (envOf ws) rs).length = rs.length := evs_len _ _ _
  have hX6 := s6 _ _ (s5 _ _ hX)
  refine ⟨_, rfl, R, xs, rfl, SqL.of hX6, _, rfl, by omega, by omega, ?_⟩
  refine for_range (lo := 0) (n := ((xs.length : Nat) : Int).toNat) (fun i σ' H' => Same H6 H' ∧ ∃ v11 : Option V, σ' = [some (.ref p), some (.ref R), some (.ref W), some (.int (n : Nat)), some (.int (N : Nat)), some (.ref a), some (.ref L), some (.ref Pl), v8, some (.ref D), v10, v11, none]) ⟨Same.refl _, none, rfl⟩ ?_ ?_
  · rintro i σ' H7 hi ⟨s7, v11, rfl⟩
    rw [Int.toNat_natCast] at hi
    rw [Int.zero_add]
    have hp7 := (hp5.news s6).news s7
    obtain ⟨dx7, ho7⟩ := id hp7.ob
    refine ⟨_, rfl, a, dx7, _, rfl, ho7, no_meth (by decide +kernel), _, rfl, _, rfl, Pl, _, _, _, rfl, rfl, SqL.of (s7 _ _ (s6 _ _ hP5)), natL_at (by omega), _, rfl, a, l, d, W, N, st.1, _, ws, rfl, hp7, I.ok, by omega, N12, (I.at' i (by omega)).1, .inl (s7 _ _ (s6 _ _ hW5)), fun x hx => ⟨(gws x hx).1, Int.lt_of_lt_of_le (gws x hx).2 pl⟩, fun k g e => (by rw [wl]; exact hrw.gets k g e), fun H8 s8 => ?_⟩
    refine ⟨_, rfl, _, rfl, D, _, _, _, rfl, rfl, SqL.of (s8 _ _ (s7 _ _ hD)), intL_at (by omega), rfl, _, rfl, iteN (neI (by rw [evs_getD]; exact (I.at' i (by omega)).2)) ?_⟩
    exact ⟨s7.trans s8, _, rfl⟩
  rintro σ' H7 ⟨s7, v11, rfl⟩
  have s17 : Same H1 H7 := s5.trans (s6.trans s7)
  have hp7 := (hp5.news s6).news s7
  have hl7 := (hl5.news s6).news s7
  obtain ⟨zs, hZ, ez, _⟩ := hl7.item
  have dr7 := d1.news s17
  have none_of : ∀ b o, H1 b = some o → l ≠ b ∧ d ≠ b ∧ L ≠ b ∧ Pl ≠ b := fun b o e => ⟨fun z => (by rw [← z, hl] at e; cases e), fun z => (by rw [← z, hd] at e; cases e), fun z => (by rw [← z, L1N] at e; cases e), fun z => (by rw [← z, P1N] at e; cases e)⟩
  have np : l ≠ p ∧ d ≠ p ∧ L ≠ p ∧ Pl ≠ p := by obtain ⟨_, _, h1, _⟩ := d1; exact none_of _ _ h1
  -- bad
  refine ⟨_, rfl, _, rfl, L, zs, rfl, SqL.of hZ, by show 4 ≤ sizeLine; decide, fun B hB => ?_⟩
  have s8 := same_new (o := .lst [.int (-1), .int (zs.length : Nat), .non, .bl true]) hB
  have hBB : upd H7 B (.lst [.int (-1), .int (zs.length : Nat), .non, .bl true]) B = some (.lst [.int (-1), .int (zs.length : Nat), .non, .bl true]) := upd_same
  have dr8 := dr7.news s8
  have hp8 := hp7.news s8
  have hl8 := hl7.news s8
  have Bp : B ≠ p := by obtain ⟨_, _, h1, _⟩ := dr7; intro z; rw [z, h1] at hB; cases hB
  have f8 : Fr p H1 (upd H7 B (.lst [.int (-1), .int (zs.length : Nat), .non, .bl true])) := fun b o e _ => s8 _ _ (s17 _ _ e)
  generalize upd H7 B (.lst [.int (-1), .int (zs.length : Nat), .non, .bl true]) = H8 at s8 hBB dr8 hp8 hl8 f8 ⊢
  refine ⟨_, rfl, p, q, _, rfl, dr8, pq, by decide, fun H9 v v0 v1 dr9 k9 => ?_⟩
  obtain ⟨_, _, hp_, _⟩ := id dr8
  have hp9 := hp8.but hp_ np.1 k9
  have hl9 := hl8.but hp_ np.2.2.1 k9
  have hB9 := k9 _ _ hBB Bp
  have f9 : Fr p H1 H9 := f8.trans k9
  obtain ⟨bv, hbv, pbv, gbv⟩ : ∃ bv, atI [V.int (-1), .int (zs.length : Nat), .non, .bl true] v = some bv ∧ plainV bv = true ∧ goodP st.1.length bv = false := by
    have : v = 0 ∨ v = 1 ∨ v = 2 ∨ v = 3 := by omega
    rcases this with rfl | rfl | rfl | rfl
    · exact ⟨_, rfl, rfl, by show decide (0 ≤ (-1 : Int) ∧ (-1 : Int) < (st.1.length : Nat)) = false; exact decide_eq_false (by omega)⟩
    · exact ⟨_, rfl, rfl, by show decide (0 ≤ ((zs.length : Nat) : Int) ∧ ((zs.length : Nat) : Int) < (st.1.length : Nat)) = false; exact decide_eq_false (by omega)⟩
    · exact ⟨_, rfl, rfl, rfl⟩
    · exact ⟨_, rfl, rfl, rfl⟩
  refine ⟨B, _, _, _, rfl, rfl, SqL.of hB9, hbv, ?_⟩
  -- width
  refine ⟨_, rfl, _, _, rfl, rfl, by show 5 ≤ sizeLine; decide, fun C hC => ?_⟩
  have s10 := same_new (o := .lst [.int 0, .int ((N : Nat) + 1), .non, .str "1", .bl true]) hC
  have hCC : upd H9 C (.lst [.int 0, .int ((N : Nat) + 1), .non, .str "1", .bl true]) C = some (.lst [.int 0, .int ((N : Nat) + 1), .non, .str "1", .bl true]) := upd_same
  have dr10 := dr9.news s10
  have hp10 := hp9.news s10
  have hl10 := hl9.news s10
  have Cp : C ≠ p := by obtain ⟨_, _, h1, _⟩ := dr9; intro z; rw [z, h1] at hC; cases hC
  have f10 : Fr p H1 (upd H9 C (.lst [.int 0, .int ((N : Nat) + 1), .non, .str "1", .bl true])) := fun b o e h => s10 _ _ (f9 _ _ e h)
  generalize upd H9 C (.lst [.int 0, .int ((N : Nat) + 1), .non, .str "1", .bl true]) = H10 at s10 hCC dr10 hp10 hl10 f10 ⊢
  refine ⟨_, rfl, p, q, _, rfl, dr10, pq, by decide, fun H11 v' v'0 v'1 dr11 k11 => ?_⟩
  obtain ⟨_, _, hp_', _⟩ := id dr10
  have hp11 := hp10.but hp_' np.1 k11
  have hl11 := hl10.but hp_' np.2.2.1 k11
  have hC11 := k11 _ _ hCC Cp
  have f11 : Fr p H1 H11 := f10.trans k11
  obtain ⟨wv, hwv, pwv, iwv⟩ : ∃ wv, atI [V.int 0, .int ((N : Nat) + 1), .non, .str "1", .bl true] v' = some wv ∧ plain4 wv = true ∧ inB 1 N wv = false := by
    have : v' = 0 ∨ v' = 1 ∨ v' = 2 ∨ v' = 3 ∨ v' = 4 := by omega
    rcases this with rfl | rfl | rfl | rfl | rfl
    · exact ⟨_, rfl, rfl, by show decide ((1 : Int) ≤ 0 ∧ (0 : Int) ≤ (N : Nat)) = false; exact decide_eq_false (by omega)⟩
    · exact ⟨_, rfl, rfl, by show decide ((1 : Int) ≤ (N : Nat) + 1 ∧ ((N : Nat) : Int) + 1 ≤ (N : Nat)) = false; exact decide_eq_false (by omega)⟩
    · exact ⟨_, rfl, rfl, rfl⟩
    · exact ⟨_, rfl, rfl, rfl⟩
    · exact ⟨_, rfl, rfl, rfl⟩
  refine ⟨C, _, _, _, rfl, rfl, SqL.of hC11, hwv, ?_⟩
  -- refusals
  refine ⟨_, rfl, _, rfl, _, rfl, a, l, d, N, st.1, "plus", bv, .int 0, wv, rfl, hp11, by omega, N1, N12, .inl ⟨fun o => by cases o <;> decide +kernel, fun H12 s12 => ⟨rfl, _, rfl, iteN (by decide +kernel) ?_⟩⟩⟩
  refine ⟨_, rfl, _, rfl, _, rfl, a, l, d, N, st.1, "add", bv, .int 0, wv, rfl, hp11.news s12, by omega, N1, N12, .inr (.inl ⟨.add, rfl, pbv, gbv, fun H13 s13' => ⟨rfl, _, rfl, iteN (by decide +kernel) ?_⟩⟩)⟩
  have s13 := s12.trans s13'
  refine ⟨_, rfl, _, rfl, _, rfl, a, l, d, N, st.1, "and", .int 0, bv, wv, rfl, hp11.news s13, by omega, N1, N12, .inr (.inr (.inl ⟨.and, 0, rfl, rfl, h0, pbv, gbv, fun H14 s14' => ⟨rfl, _, rfl, iteN (by decide +kernel) ?_⟩⟩))⟩
  have s14 := s13.trans s14'
  refine ⟨_, rfl, _, rfl, a, l, d, N, st.1, "xor", .int 0, .int 0, wv, rfl, hp11.news s14, by omega, N1, N12, .inr (.inr (.inr ⟨.xor, 0, 0, rfl, rfl, rfl, h0, h0, pwv, iwv, fun H15 s15' => ⟨rfl, _, rfl, iteN (by decide +kernel) ?_⟩⟩))⟩
  have s15 := s14.trans s15'
  have hp15 := hp11.news s15
  have hl15 := hl11.news s15
  have dr15 := dr11.news s15
  have f15 : Fr p H1 H15 := fun b o e h => s15 _ _ (f11 _ _ e h)
  obtain ⟨dx15, l2, ys2, q1, q2, q3, q4, q5⟩ := listFacts T hp15 (by omega)
  exact ⟨_, rfl, a, dx15, _, l2, ys2, rfl, q1, q2, q3, q4, fun g' H16 hg' s16 hg16 => ⟨_, rfl, eqL (q5 g' H16 s16 hg16) (hl15.news s16) (k H16 (dr15.news s16) fun b o e h => s16 _ _ (f15 _ _ (k1 _ _ e h) h))⟩⟩
end
end My

/-! LP -/
namespace My
open PySem L2
local macro_rules | `(tactic| walk_at "side") => `(tactic| first | with_reducible rfl | assumption | rfl | decide | omega | exact cpow1 (by omega) (by omega) | exact cdiv (by omega) (by omega) | exact two_pos _ | exact SqL.of (by assumption) | exact SqT.of (by assumption) | exact TyX.base (TyOf.int _) | exact TyX.base (TyOf.bl _) | exact TyX.base TyOf.non | exact scal_opt _ _ | exact k_ii | exact k_bi | exact k_ni | exact k_ib | exact k_bb | exact TyX.base (TyOf.lst (by assumption)) | exact k_ll | exact k_lt)
local macro_rules | `(tactic| walk_at "p") => `(tactic| repeat (first | refine And.intro (by walk_at "side") ?_ | apply Exists.intro | refine iteN (by assumption) ?_ | refine iteP (by assumption) ?_ | refine iteN (by decide) ?_ | refine iteP (by decide) ?_))

theorem shS {z : Str} (h : PyData.strOk z = true) : SeqAt.shaped (.str z) = true := by simp [SeqAt.shaped, PyData.canLay0, PyData.depth, h]
theorem eqSt {K : PySem.W.Frag} {H : Hp} {z : Str} {Q : VK} (h : PyData.strOk z = true) (k : Q (.bl true) H) : rEqD K (.str z) (.str z) H Q := ⟨_, _, .str z, .str z, shS h, shS h, by rw [show PyData.eqv (.str z) (.str z) = true by simp [PyData.eqv]]; exact k⟩
theorem sok_app {a b : Str} (ha : PyData.strOk a = true) (hb : PyData.strOk b = true) : PyData.strOk (a ++ b) = true := by
  unfold PyData.strOk at *
  show (a.cps ++ b.cps).all _ = true
  rw [Array.all_append, ha, hb]; rfl
theorem sjoin_ok : ∀ ys : List Str, (∀ z ∈ ys, PyData.strOk z = true) → PyData.strOk (Str.join (" " : Str) ys) = true
  | [], _ => by decide +kernel
  | [x], h => by simpa [Str.join] using h x (by simp)
  | x :: y :: r, h => by
    have ih := sjoin_ok (y :: r) fun z hz => h z (by simp [hz])
    show PyData.strOk (x ++ (" " : Str) ++ Str.join " " (y :: r)) = true
    exact sok_app (sok_app (h x (by simp)) (by decide +kernel)) ih
theorem join_ok {ys : List Str} (h : ∀ z ∈ ys, PyData.strOk z = true) : PyData.strOk (Txt.join (" " : Str) ys) = true := by
  have : Txt.join (" " : Str) ys = Str.join " " ys := StrLaws.glued_eq_join _ _
  rw [this]; exact sjoin_ok ys h
theorem small_ok : ∀ v : Fin 64, PyData.strOk (decS (v.val : Int)) = true ∧ PyData.strOk (gS (v.val : Int)) = true := by decide +kernel
theorem tok_ok {ps : List Part} (wf : WF ps) (sm : Sm ps) : ∀ k, ∀ z ∈ tkn ps k, PyData.strOk z = true := by
  intro k
  induction k using Nat.strongRecOn with
  | _ k ih =>
    intro z hz
    unfold tkn at *
    cases e : ps[k]? with
    | none =>
      have : tm ps k = .leaf "" := by unfold tm; rw [tmP, e]
      rw [this] at hz
      rw [List.mem_singleton.mp hz]; decide +kernel
    | some p =>
      cases p with
      | num v =>
        rw [tm_num e] at hz
        rw [List.mem_singleton.mp hz]
        obtain ⟨h0, h1⟩ := sm.num _ _ e
        obtain ⟨i, rfl⟩ := Int.eq_ofNat_of_zero_le h0
        exact (small_ok ⟨i, by omega⟩).1
      | get v =>
        rw [tm_get e] at hz
        rw [List.mem_singleton.mp hz]
        obtain ⟨h0, h1⟩ := sm.get _ _ e
        obtain ⟨i, rfl⟩ := Int.eq_ofNat_of_zero_le h0
        exact (small_ok ⟨i, by omega⟩).2
      | op o a b =>
        obtain ⟨ha, hb⟩ := wf k o a b e
        rw [tm_op wf e, toks_node] at hz
        rcases List.mem_cons.mp hz with e' | hz
        · rw [e']; cases o <;> decide +kernel
        · rcases List.mem_append.mp hz with hz | hz
          · exact ih a ha z hz
          · exact ih b hb z hz
section
variable {P : Program} {w : World} {K : PySem.W.Frag} {mg : Str → Option Value} {base : Heap}
def sp_law_tokens (T : Txt K mg) : Sp := fun vs H Q _ => ∃ (l : Addr) (ps : List Part) (k : Nat), vs = [.ref l, .int k] ∧ LAt H l ps ∧ WF ps ∧ Sm ps ∧ k < ps.length ∧ ps.length < 1000 ∧
  ((tkn ps k).length ≤ 400 → ∀ (H' : Hp) (t : Addr), Same H H' → H t = none → H' t = some (.lst ((tkn ps k).map V.str)) → Q (.ref t) H') ∧ (400 < (tkn ps k).length → ∀ H', Same H H' → Q .non H')
theorem sp_law_tokens_len {T : Txt K mg} {vs H Q E} (h : sp_law_tokens T vs H Q E) : vs.length = 2 := by obtain ⟨_, _, _, rfl, _⟩ := h; rfl
theorem ok_law_tokens (T : Txt K mg) : FnOk P w K mg base CX0 1 T.f_law_tokens T.fd_law_tokens ["_law_parts", "_law_number"] (sp_law_tokens T) := by
  skip
  refine T.F_law_tokens.ok sc_law_tokens (fun vs H Q E h => sp_law_tokens_len h) (fun cdv A outer s H vs Q E hr h => ?_)
  obtain ⟨l, ps, i, rfl, hl, wf, sm, hi, h1000, k1, k2⟩ := h
  have sz : sizeLine = 16777216 := sizeLine_eq
  refine ⟨_, (pss_cons (ps_set (i := 2) sc_law_tokens.nd rfl (Or.inl rfl) (pe_lst (pa_cons (pv 1) pa_nil)))
       (pss_cons (ps_set (i := 3) sc_law_tokens.nd rfl (Or.inl rfl) (pe_lst pa_nil))
       (pss_cons (ps_for PassesOwn.never rfl (pi_range1 (by rfl) T.n_range (pa_cons pe_int pa_nil)) (pg_name (i := 4) sc_law_tokens.nd rfl (Or.inl rfl))
        (pss_one (ps_if (pt_cmpR op_gt (pe_callB call_lenL (by rfl) T.n_len (by decide +kernel) (pa_cons (pv 2) pa_nil)) pe_int (nomark _))
        (pss_cons (ps_set (i := 5) sc_law_tokens.nd rfl (Or.inl rfl) (pe_ix ix_list (pv 0) (pe_bm0 PySem.F.plainAttrs_list PySem.F.slot_list_pop PySem.F.type_list_pop mt_pop (pv 2)) (fun _ _ => rfl)))
       (pss_one (ps_if (pt_cmpR op_eq (pe_ix ix_tup (pv 5) pe_int (fun _ _ => rfl)) pe_str (nomark _))
        (pss_one (ps_expr (pe_bm PySem.F.plainAttrs_list PySem.F.slot_list_append PySem.F.type_list_append mt_append (pv 3) (pa_cons (pe_callTy call_str_int (by rfl) T.n_str (by decide +kernel) (pa_cons (pe_ix ix_tup (pv 5) pe_int (fun _ _ => rfl)) pa_nil)) pa_nil))))
        (pss_one (ps_if (pt_cmpR op_eq (pe_ix ix_tup (pv 5) pe_int (fun _ _ => rfl)) pe_str (nomark _))
        (pss_one (ps_expr (pe_bm PySem.F.plainAttrs_list PySem.F.slot_list_append PySem.F.type_list_append mt_append (pv 3) (pa_cons (pe_op op_add_str pe_str (pe_callTy call_str_int (by rfl) T.n_str (by decide +kernel) (pa_cons (pe_ix ix_tup (pv 5) pe_int (fun _ _ => rfl)) pa_nil))) pa_nil))))
        (pss_cons (ps_expr (pe_bm PySem.F.plainAttrs_list PySem.F.slot_list_append PySem.F.type_list_append mt_append (pv 3) (pa_cons (pe_ix ix_tup (pv 5) pe_int (fun _ _ => rfl)) pa_nil)))
       (pss_cons (ps_expr (pe_bm PySem.F.plainAttrs_list PySem.F.slot_list_append PySem.F.type_list_append mt_append (pv 2) (pa_cons (pe_ix ix_tup (pv 5) pe_int (fun _ _ => rfl)) pa_nil)))
       (pss_one (ps_expr (pe_bm PySem.F.plainAttrs_list PySem.F.slot_list_append PySem.F.type_list_append mt_append (pv 2) (pa_cons (pe_ix ix_tup (pv 5) pe_int (fun _ _ => rfl)) pa_nil)))))))))))
        pss_nil)))
       (pss_cons (ps_if (pt_cmpR op_gt (pe_callB call_lenL (by rfl) T.n_len (by decide +kernel) (pa_cons (pv 2) pa_nil)) pe_int (nomark _))
        (pss_one (ps_ret pe_non))
        pss_nil)
       (pss_one (ps_ret (pv 3))))))), ?_⟩
  obtain ⟨xs, hX, ex, hit⟩ := hl.item
  refine ⟨_, rfl, by show 1 ≤ sizeLine; decide, fun wl wlN => ?_⟩
  have s1 := same_new (o := .lst [.int (i : Nat)]) wlN
  have hwl : upd H wl (.lst [.int (i : Nat)]) wl = some (.lst [.int (i : Nat)]) := upd_same
  generalize upd H wl (.lst [.int (i : Nat)]) = H1 at s1 hwl ⊢
  refine ⟨Nat.zero_le _, fun tl tl0 => ?_⟩
  have s2' := same_new (o := .lst []) tl0
  have s2 := s1.trans s2'
  have htl : upd H1 tl (.lst []) tl = some (.lst []) := upd_same
  have tlN : H tl = none := s1.free tl0
  have hwl2 := s2' _ _ hwl
  have tw : tl ≠ wl := fun z => by rw [z, hwl] at tl0; cases tl0
  generalize upd H1 tl (.lst []) = H2 at s2 hwl2 htl ⊢
  have up : ∀ (H' : Hp) (b : Addr) (o' : HO), Same H H' → H b = none → Same H (upd H' b o') := fun H' b o' s hb x ox e => by
    rw [upd_ne (ne_of_none e hb)]; exact s _ _ e
  refine ⟨400, rfl, by decide, by decide, ?_⟩
  refine for_range (lo := 0) (n := (400 : Int).toNat) (fun j σ' H5 => ∃ (W : List Nat) (ys : List Str) (v4 v5 : Option V), ys ++ flatW ps W = tkn ps i ∧ ys.length ≤ j ∧ (W = [] ∨ ys.length = j) ∧ W.length ≤ j + 1 ∧ (∀ z ∈ W, z < ps.length) ∧ Same H H5 ∧ H5 tl = some (.lst (ys.map V.str)) ∧ H5 wl = some (.lst (natL W)) ∧ σ' = [some (.ref l), some (.int (i : Nat)), some (.ref wl), some (.ref tl), v4, v5])
    ⟨[i], [], none, none, flatW_one ps i, Nat.le_refl _, .inr rfl, Nat.le_refl _, fun z hz => by rw [List.mem_singleton.mp hz]; exact hi, s2, htl, hwl2, rfl⟩ ?_ ?_
  · rintro j σ' H5 hj ⟨W, ys, v4, v5, hy, yj, hWj, Wj, hW, s5, ht5, hw5, rfl⟩
    have hj : j < 400 := hj
    rcases W.eq_nil_or_concat with rfl | ⟨W', kk, rfl⟩
    · refine ⟨_, rfl, wl, _, rfl, SqL.of hw5, _, _, rfl, rfl, _, rfl, iteN (by decide) ?_⟩
      exact ⟨[], ys, _, _, hy, by omega, .inl rfl, by simp, hW, s5, ht5, hw5, rfl⟩
    rw [List.concat_eq_append] at *
    have hkn : kk < ps.length := hW kk (by simp)
    have hW' : ∀ z ∈ W', z < ps.length := fun z hz => hW z (by simp [hz])
    have yj' : ys.length = j := by
      rcases hWj with h | h
      · simp at h
      · exact h
    rw [List.length_append, List.length_singleton] at Wj
    obtain ⟨p, hpk⟩ : ∃ p, ps[kk]? = some p := ⟨_, List.getElem?_eq_getElem hkn⟩
    rw [natL_snoc'] at hw5
    refine ⟨_, rfl, wl, _, rfl, SqL.of hw5, _, _, rfl, rfl, _, rfl, iteP (dT (by rw [List.length_append, List.length_singleton]; omega)) ?_⟩
    have nxt : ∀ (z : Str) (W2 : List Nat) (H' : Hp) (v4 v5 : Option V), z :: flatW ps W2 = flatW ps (W' ++ [kk]) → W2.length ≤ j + 2 → (∀ z ∈ W2, z < ps.length) → Same H H' → H' tl = some (.lst ((ys ++ [z]).map V.str)) → H' wl = some (.lst (natL W2)) →
        ∃ (W : List Nat) (ys : List Str) (w4 w5 : Option V), ys ++ flatW ps W = tkn ps i ∧ ys.length ≤ j + 1 ∧ (W = [] ∨ ys.length = j + 1) ∧ W.length ≤ j + 1 + 1 ∧ (∀ z ∈ W, z < ps.length) ∧ Same H H' ∧ H' tl = some (.lst (ys.map V.str)) ∧ H' wl = some (.lst (natL W)) ∧ [some (V.ref l), some (.int (i : Nat)), some (.ref wl), some (.ref tl), v4, v5] = [some (V.ref l), some (.int (i : Nat)), some (.ref wl), some (.ref tl), w4, w5] :=
      fun z W2 H' v4 v5 e h1 h2 h3 h4 h5 => ⟨W2, ys ++ [z], v4, v5, by rw [List.append_assoc]; show ys ++ (z :: flatW ps W2) = _; rw [e, hy], by rw [List.length_append, List.length_singleton]; omega, .inr (by rw [List.length_append, List.length_singleton]; omega), h1, h2, h3, h4, h5, rfl⟩
    refine ⟨_, rfl, _, rfl, Or.inl ⟨rfl, _, SqL.of hw5⟩, wl, _, .int (kk : Nat), rfl, rfl, hw5, by simp, ?_⟩
    rw [List.dropLast_concat]
    have s6 := up H5 wl (.lst (natL W')) s5 wlN
    have hw6 : upd H5 wl (.lst (natL W')) wl = some (.lst (natL W')) := upd_same
    have ht6 : upd H5 wl (.lst (natL W')) tl = some (.lst (ys.map V.str)) := by rw [upd_ne tw]; exact ht5
    generalize upd H5 wl (.lst (natL W')) = H6 at s6 hw6 ht6 ⊢
    obtain ⟨t7, ht7, hT⟩ := hit kk p hpk
    have hT7 := s6 _ _ hT
    refine ⟨l, xs, _, _, rfl, rfl, SqL.of (s6 _ _ hX), at_of rfl ht7, ?_⟩
    have yl : (ys.map V.str).length < sizeLine := by rw [List.length_map]; omega
    have app : ∀ z : Str, Same H (upd H6 tl (.lst (ys.map V.str ++ [.str z]))) ∧ upd H6 tl (.lst (ys.map V.str ++ [.str z])) tl = some (.lst ((ys ++ [z]).map V.str)) ∧ upd H6 tl (.lst (ys.map V.str ++ [.str z])) wl = some (.lst (natL W')) := fun z =>
      ⟨up _ _ _ s6 tlN, by rw [upd_same, List.map_append]; rfl, by rw [upd_ne tw.symm]; exact hw6⟩
    cases p with
    | num v =>
      have hv := sm.num _ _ hpk
      refine ⟨_, rfl, t7, _, 0, _, rfl, rfl, SqT.of hT7, rfl, rfl, _, rfl, iteP (by decide) ?_⟩
      refine ⟨_, rfl, .inl ⟨rfl, _, SqL.of ht6⟩, _, rfl, t7, _, 1, _, rfl, rfl, SqT.of hT7, rfl, v, rfl, log_small hv.1 hv.2, tl, _, _, rfl, rfl, ht6, yl, ?_⟩
      obtain ⟨a1, a2, a3⟩ := app (decS v)
      exact nxt (decS v) W' _ _ _ (flatW_leaf (tm_num hpk)).symm (by omega) hW' a1 a2 a3
    | get g =>
      have hv := sm.get _ _ hpk
      refine ⟨_, rfl, t7, _, 0, _, rfl, rfl, SqT.of hT7, rfl, rfl, _, rfl, iteN (by decide) ?_⟩
      refine ⟨_, rfl, t7, _, 0, _, rfl, rfl, SqT.of hT7, rfl, rfl, _, rfl, iteP (by decide) ?_⟩
      have gl := (small_dec hv.1 hv.2).1
      refine ⟨_, rfl, .inl ⟨rfl, _, SqL.of ht6⟩, _, rfl, t7, _, 1, _, rfl, rfl, SqT.of hT7, rfl, g, rfl, log_small hv.1 hv.2, "g", decS g, rfl, rfl, by rw [show ("g" : Str).length = 1 from by decide]; omega, ?_⟩
      rw [show (("g" : Str) ++ decS g) = gS g from rfl]
      refine ⟨tl, _, _, rfl, rfl, ht6, yl, ?_⟩
      obtain ⟨a1, a2, a3⟩ := app (gS g)
      exact nxt (gS g) W' _ _ _ (flatW_leaf (tm_get hpk)).symm (by omega) hW' a1 a2 a3
    | op o x y =>
      have wfp := wf _ _ _ _ hpk
      refine ⟨_, rfl, t7, _, 0, _, rfl, rfl, SqT.of hT7, rfl, rfl, _, rfl, iteN (op_num_f o) ?_⟩
      refine ⟨_, rfl, t7, _, 0, _, rfl, rfl, SqT.of hT7, rfl, rfl, _, rfl, iteN (op_get_f o) ?_⟩
      refine ⟨_, rfl, .inl ⟨rfl, _, SqL.of ht6⟩, _, rfl, t7, _, 0, _, rfl, rfl, SqT.of hT7, rfl, tl, _, _, rfl, rfl, ht6, yl, ?_⟩
      obtain ⟨a1, a2, a3⟩ := app o.s
      generalize upd H6 tl (.lst (ys.map V.str ++ [.str o.s])) = H8 at a1 a2 a3 ⊢
      refine ⟨_, rfl, .inl ⟨rfl, _, SqL.of a3⟩, _, rfl, t7, _, 2, _, rfl, rfl, SqT.of (a1 _ _ hT), rfl, wl, _, _, rfl, rfl, a3, by rw [natL_len]; omega, ?_⟩
      have a4 := up _ wl (.lst (natL W' ++ [.int (y : Nat)])) a1 wlN
      have a5 : upd H8 wl (.lst (natL W' ++ [.int (y : Nat)])) wl = some (.lst (natL W' ++ [.int (y : Nat)])) := upd_same
      have a6 : upd H8 wl (.lst (natL W' ++ [.int (y : Nat)])) tl = some (.lst ((ys ++ [o.s]).map V.str)) := by rw [upd_ne tw]; exact a2
      generalize upd H8 wl (.lst (natL W' ++ [.int (y : Nat)])) = H9 at a4 a5 a6 ⊢
      refine ⟨_, rfl, .inl ⟨rfl, _, SqL.of a5⟩, _, rfl, t7, _, 1, _, rfl, rfl, SqT.of (a4 _ _ hT), rfl, wl, _, _, rfl, rfl, a5, by rw [List.length_append, natL_len, List.length_singleton]; omega, ?_⟩
      refine nxt o.s (W' ++ [y, x]) _ _ _ (flatW_op (tm_op wf hpk)).symm (by rw [List.length_append]; show _ + 2 ≤ _; omega) (fun z hz => ?_) (up _ _ _ a4 wlN) (by rw [upd_ne tw]; exact a6) (by rw [upd_same]; unfold natL; rw [List.map_append, List.append_assoc]; rfl)
      rcases List.mem_append.mp hz with hz | hz
      · exact hW' z hz
      · rcases List.mem_cons.mp hz with rfl | hz
        · omega
        · rw [List.mem_singleton.mp hz]; omega
  rintro σ' H5 ⟨W, ys, v4, v5, hy, yj, hWj, Wj, hW, s5, ht5, hw5, rfl⟩
  have yj : ys.length ≤ 400 := yj
  have e := congrArg List.length hy
  rw [List.length_append] at e
  by_cases hN : W = []
  · subst hN
    refine ⟨_, rfl, wl, _, rfl, SqL.of hw5, _, _, rfl, rfl, _, rfl, iteN (by decide) ?_⟩
    have ey : ys = tkn ps i := by rw [← hy, flatW_nil, List.append_nil]
    subst ey
    exact ⟨_, rfl, k1 yj H5 tl s5 tlN ht5⟩
  · have wp : 0 < W.length := List.length_pos_iff.mpr hN
    refine ⟨_, rfl, wl, _, rfl, SqL.of hw5, _, _, rfl, rfl, _, rfl, iteP (dT (by rw [natL_len]; omega)) ?_⟩
    have fp := flatW_pos (ps := ps) hN
    have : ys.length = 400 := hWj.resolve_left hN
    exact k2 (by omega) H5 s5
def sp_law_text_is (T : Txt K mg) : Sp := fun vs H Q _ => ∃ (a l d : Addr) (n : Nat) (ps : List Part) (k : Nat) (v : V), vs = [.ref a, .int k, v] ∧ PoolAt T.C H a l d n ps ∧ WF ps ∧ Sm ps ∧ ps.length ≤ 4000 ∧ k < ps.length ∧
  (((tkn ps k).length ≤ 400 ∧ ∃ t, v = .ref t ∧ H t = some (.lst ((tkn ps k).map V.str))) ∨ (400 < (tkn ps k).length ∧ v = .non)) ∧ ∀ H', Same H H' → Q (.bl true) H'
theorem sp_law_text_is_len {T : Txt K mg} {vs H Q E} (h : sp_law_text_is T vs H Q E) : vs.length = 3 := by obtain ⟨_, _, _, _, _, _, _, rfl, _⟩ := h; rfl
theorem ok_law_text_is (T : Txt K mg) : FnOk P w K mg base CX0 8 T.f_law_text_is T.fd_law_text_is ["_law_pool", "_law_part_here", "_law_tokens_here"] (sp_law_text_is T) := by
  have G_part_text := ok_part_text (P := P) (w := w) (base := base) T
  refine T.F_law_text_is.ok sc_law_text_is (fun vs H Q E h => sp_law_text_is_len h) (fun cdv A outer s H vs Q E hr h => ?_)
  obtain ⟨a, l, d, n, ps, i, v, rfl, hp, wf, sm, h40, hi, hv, k⟩ := h
  have sz : sizeLine = 16777216 := sizeLine_eq
  refine ⟨_, (pss_cons (ps_set (i := 3) sc_law_text_is.nd rfl (Or.inl rfl) pe_str)
       (pss_cons (ps_try_mix (Wout := fun _ _ _ _ => False) rfl rfl sc_law_text_is.nd takes0
       (fun W pn xe tk _ => (pss_one (ps_set (i := 3) sc_law_text_is.nd rfl (Or.inl rfl) (pe_callS G_part_text hr rfl T.g_part_text T.F_part_text.kp T.b_part_text (fun σ => passAt tk σ) (pa_cons (pv 0) (pa_cons (pv 1) pa_nil))))))
       (HdM.cons (o := some 4) ⟨rfl, by decide, Or.inl T.g_TooMany⟩ ⟨rfl, rfl⟩ (fun a oe cls d pn hz hf => (pss_one (ps_set (i := 3) sc_law_text_is.nd rfl (Or.inl rfl) (pe_lst (pa_cons (pe_xf T.xf_TooMany T.nf_TooMany hz hf (pv 4)) pa_nil))))) (HdM.cons (o := none) ⟨rfl, by decide, Or.inl T.g_BadPart⟩ trivial (fun a oe cls d pn hz hf => (pss_one (ps_set (i := 3) sc_law_text_is.nd rfl (Or.inl rfl) (pe_lst (pa_cons pe_str pa_nil))))) HdM.nil)))
       (pss_cons (ps_if (pt_cmpR op_isN (pv 2) pe_non (nomark _))
        (pss_one (ps_ret (pe_cmpR (op_eqD hr.units) (pv 3) (pe_lst (pa_cons pe_str pa_nil)) (nomark _))))
        pss_nil)
       (pss_one (ps_ret (pe_cmpR (op_eqD hr.units) (pv 3) (pe_join pe_str (pv 2)) (nomark _))))))), ?_⟩
  refine ⟨_, rfl, _, rfl, a, l, d, n, ps, i, rfl, hp, wf, sm, h40, hi, fun h4 H1 s1 => ?_, fun h4 H1 e s1 he => ?_⟩
  · obtain ⟨t, rfl, ht⟩ : ∃ t, v = .ref t ∧ H t = some (.lst ((tkn ps i).map V.str)) := by
      rcases hv with ⟨_, h⟩ | ⟨h, _⟩
      · exact h
      · omega
    refine ⟨_, rfl, rfl, _, rfl, iteN (by simp) ?_⟩
    have := sum_len (tok_len wf sm i)
    have e1 : (" " : Str).length = 1 := by decide
    refine ⟨_, rfl, ⟨_, rfl⟩, _, rfl, _, t, _, rfl, rfl, .inl (SqL.of (s1 _ _ ht)), by rw [e1]; omega, ?_⟩
    exact eqSt (join_ok (tok_ok wf sm i)) (k H1 s1)
  · obtain rfl : v = .non := by
      rcases hv with ⟨h, _⟩ | ⟨_, h⟩
      · omega
      · exact h
    refine ⟨true, T.te_TooMany, fun _ b hb => ?_, fun z => by cases z⟩
    refine ⟨_, rfl, rfl, rfl, e, _, _, rfl, upd_same, by rw [lk, if_pos rfl], by show 1 ≤ sizeLine; decide, fun t t0 => ?_⟩
    have s2 := s1.trans ((same_new he).trans (same_new (o := .lst [.str "words"]) t0))
    have hT : upd (upd H1 e (.xd [("name", V.str "words")])) t (.lst [.str "words"]) t = some (.lst [.str "words"]) := upd_same
    generalize upd (upd H1 e (.xd [("name", V.str "words")])) t (.lst [.str "words"]) = H2 at s2 hT ⊢
    refine ⟨_, rfl, rfl, _, rfl, iteP (by decide) ?_⟩
    refine ⟨_, rfl, by show 1 ≤ sizeLine; decide, fun u u0 => ?_⟩
    have s3' := same_new (o := .lst [.str "words"]) u0
    have hU : upd H2 u (.lst [.str "words"]) u = some (.lst [.str "words"]) := upd_same
    have hT3 := s3' _ _ hT
    have s3 := s2.trans s3'
    generalize upd H2 u (.lst [.str "words"]) = H3 at s3 hU hT3 ⊢
    refine ⟨_, _, .lst (SqL.of hT3) (.cons (.str _) .nil), .lst (SqL.of hU) (.cons (.str _) .nil), by decide +kernel, by decide +kernel, ?_⟩
    rw [show PyData.eqv (.list [.str "words"]) (.list [.str "words"]) = true by decide +kernel]
    exact k H3 s3
def sp_law_read (T : Txt K mg) : Sp := fun vs H Q _ => ∃ (a l d D : Addr) (n : Nat) (ps : List Part) (L : Let) (v : V), vs = [.ref a, v, .ref D] ∧ PoolAt T.C H a l d n ps ∧ n ≤ 12 ∧ ps.length ≤ 3000 ∧ H D = some (.dK (dS L)) ∧ L.length ≤ 1000 ∧ (∀ q ∈ L, q.2 < ps.length) ∧
  ((plainV v = true ∧ ∀ (H' : Hp) (t : Addr), Same H H' → H t = none → H' t = some (.lst [.non, .int (-1)]) → Q (.ref t) H') ∨
   (∃ (q : Addr) (xs : List V) (i : Nat), v = .ref q ∧ Row H q xs ∧ (∀ x ∈ xs, TokOk x) ∧ xs.length ≤ 1000 ∧ chk n L xs 0 1 = some i ∧ ∀ (H' : Hp) (t : Addr), Same H H' → H t = none → H' t = some (.lst [.non, .int (i : Nat)]) → Q (.ref t) H') ∨
   ∃ (q : Addr) (t : Tm), v = .ref q ∧ Row H q (t.toks.map V.str) ∧ t.good n L ∧ (∀ z ∈ t.toks, digOk z = true) ∧ t.toks.length ≤ 400 ∧
    ∀ (H' : Hp) (u : Addr), PoolAt T.C H' a l d n (rdT n L t ps).2 → H u = none → H' u = some (.lst [.int ((rdT n L t ps).1 : Nat)]) → (∀ b o, H b = some o → b ≠ l → b ≠ d → H' b = some o) → Q (.ref u) H')
theorem sp_law_read_len {T : Txt K mg} {vs H Q E} (h : sp_law_read T vs H Q E) : vs.length = 3 := by obtain ⟨_, _, _, _, _, _, _, _, rfl, _⟩ := h; rfl
theorem ok_law_read (T : Txt K mg) : FnOk P w K mg base CX0 8 T.f_law_read T.fd_law_read ["_law_pool", "_law_tokens_here", "_law_letters"] (sp_law_read T) := by
  have G_part_of_words := ok_part_of_words (P := P) (w := w) (base := base) T
  refine T.F_law_read.ok sc_law_read (fun vs H Q E h => sp_law_read_len h) (fun cdv A outer s H vs Q E hr h => ?_)
  obtain ⟨a, l, d, D, n, ps, L, v, rfl, hp, n12, h30, hD, L1000, hLp, h⟩ := h
  refine ⟨_, (pss_cons (ps_set (i := 3) sc_law_read.nd rfl (Or.inl rfl) (pe_lst pa_nil))
       (pss_cons (ps_try_as (i := 4) (Wout := fun _ _ _ _ => False) rfl rfl sc_law_read.nd rfl rfl ⟨rfl, by decide, Or.inl T.g_BadWords⟩ takes0
       (fun W pn xe tk _ => (pss_one (ps_set (i := 3) sc_law_read.nd rfl (Or.inl rfl) (pe_lst (pa_cons (pe_callS G_part_of_words hr rfl T.g_part_of_words T.F_part_of_words.kp T.b_part_of_words (fun σ => passAt tk σ) (pa_cons (pv 0) (pa_cons (pv 1) (pa_cons (pv 2) pa_nil)))) pa_nil)))))
       (fun a oe cls d pn hz hf => (pss_one (ps_set (i := 3) sc_law_read.nd rfl (Or.inl rfl) (pe_lst (pa_cons pe_non (pa_cons (pe_xf T.xf_BadWords T.nf_BadWords hz hf (pv 4)) pa_nil)))))))
       (pss_one (ps_ret (pv 3))))), ?_⟩
  refine ⟨Nat.zero_le _, fun r r0 => ?_⟩
  have s1 := same_new (o := .lst []) r0
  have bad : ∀ (i : Int), (∀ (H' : Hp) (t : Addr), Same H H' → H t = none → H' t = some (.lst [.non, .int i]) → Q (.ref t) H') → ∀ (H2 : Hp) (e : Addr), Same (upd H r (.lst [])) H2 → H2 e = none → ∀ (t : Addr), upd H2 e (.xd [("at", V.int i)]) t = none → Q (.ref t) (upd (upd H2 e (.xd [("at", V.int i)])) t (.lst [.non, .int i])) := fun i k H2 e s2 he t t0 => by
    have s3 := s1.trans (s2.trans (same_new (o := .xd [("at", V.int i)]) he))
    exact k _ t (s3.trans (same_new t0)) (s3.free t0) upd_same
  refine ⟨_, rfl, _, rfl, _, rfl, a, l, d, D, n, ps, L, v, rfl, hp.news s1, n12, h30, s1 _ _ hD, L1000, hLp, ?_⟩
  rcases h with ⟨hv, k⟩ | ⟨q, xs, i, rfl, hq, hx, l1000, hc, k⟩ | ⟨q, t, rfl, hq, hg, hdig, l400, k⟩
  · refine .inl ⟨hv, fun H2 e s2 he => ?_⟩
    refine ⟨true, T.te_BadWords, fun _ b hb => ?_, fun z => by cases z⟩
    exact ⟨_, rfl, rfl, rfl, e, _, _, rfl, upd_same, by rw [lk, if_pos rfl], by show 2 ≤ sizeLine; decide, fun t t0 => ⟨_, rfl, bad _ k H2 e s2 he t t0⟩⟩
  · refine .inr (.inl ⟨q, xs, i, rfl, hq.news s1, hx, l1000, hc, fun H2 e s2 he => ?_⟩)
    refine ⟨true, T.te_BadWords, fun _ b hb => ?_, fun z => by cases z⟩
    exact ⟨_, rfl, rfl, rfl, e, _, _, rfl, upd_same, by rw [lk, if_pos rfl], by show 2 ≤ sizeLine; decide, fun t t0 => ⟨_, rfl, bad _ k H2 e s2 he t t0⟩⟩
  · refine .inr (.inr ⟨q, t, rfl, hq.news s1, hg, hdig, l400, fun H2 hp2 f2 => ?_⟩)
    refine ⟨by show 1 ≤ sizeLine; decide, fun u u0 => ⟨_, rfl, ?_⟩⟩
    have su := same_new (o := .lst [.int ((rdT n L t ps).1 : Nat)]) u0
    have uN : H u = none := by
      obtain ⟨_, e1, _⟩ := id hp.lst
      obtain ⟨_, e2, _⟩ := id hp2.lst
      cases hu : H u with
      | none => rfl
      | some o =>
        by_cases h1 : u = l
        · rw [h1, e2] at u0; cases u0
        · by_cases h2 : u = d
          · rw [h2, hp2.dic] at u0; cases u0
          · have := f2 _ _ (s1 _ _ hu) h1 h2
            rw [this] at u0; cases u0
    exact k _ u (hp2.news su) uN upd_same fun b o e h1 h2 => su _ _ (f2 _ _ (s1 _ _ e) h1 h2)
end
end My

/-! LQ -/
namespace My
open PySem L2
local macro_rules | `(tactic| walk_at "side") => `(tactic| first | with_reducible rfl | assumption | rfl | decide | omega | exact cpow1 (by omega) (by omega) | exact cdiv (by omega) (by omega) | exact two_pos _ | exact SqL.of (by assumption) | exact SqT.of (by assumption) | exact TyX.base (TyOf.int _) | exact TyX.base (TyOf.bl _) | exact TyX.base TyOf.non | exact scal_opt _ _ | exact k_ii | exact k_bi | exact k_ni | exact k_ib | exact k_bb | exact TyX.base (TyOf.lst (by assumption)) | exact k_ll | exact k_lt)
local macro_rules | `(tactic| walk_at "p") => `(tactic| repeat (first | refine And.intro (by walk_at "side") ?_ | apply Exists.intro | refine iteN (by assumption) ?_ | refine iteP (by assumption) ?_ | refine iteN (by decide) ?_ | refine iteP (by decide) ?_))

theorem sIx_nat {n d v : Nat} (h : v ≤ n) : HT.sIx n d (some (v : Int)) = v := by
  show (if (v : Int) < 0 then ((v : Int) + (n : Nat)).toNat else min (v : Int).toNat n) = _
  rw [if_neg (by omega), Int.toNat_natCast]
  exact Nat.min_eq_left h
theorem cutV_to {xs : List V} {v : Nat} (h : v ≤ xs.length) : cutV xs none (some (v : Int)) = xs.take v := by
  unfold cutV
  rw [sIx_nat h]
  show (List.take (v - 0) (List.drop 0 _)) = _
  simp
def idxG (L : Let) : Prop := ∀ q ∈ L, ∃ i : Fin 64, q.1 = gS (i.val : Int)
theorem look_none {L : Let} {z : Str} (h : idxG L) (hz : ∀ i : Fin 64, gS (i.val : Int) ≠ z) : lookS L z = none := by
  unfold lookS
  have : L.find? (fun q => decide (q.1 = z)) = none := List.find?_eq_none.mpr fun q hq => by
    obtain ⟨i, e⟩ := h q hq
    rw [e]
    simp
    exact hz i
  rw [this]; rfl
theorem tk_none {n : Nat} {L : Let} {z : Str} (ho : opOf z = none) (hw : wordT n z = none) (hl : lookS L z = none) : tk n L (.str z) = none := by
  rw [tk_str, ho, hw, hl]; rfl
def badL (n : Nat) : List V := [.str "g99", .str "-1", .str "", .int 3, .non, .str "01", .str (decS (1 * 2 ^ (((n : Nat) : Int)).toNat))]
def badS (n : Nat) : List Str := ["g99", "-1", "", "01", decS (1 * 2 ^ (((n : Nat) : Int)).toNat)]
theorem bad_all : ∀ n : Fin 6, ∀ z ∈ badS (n.val + 1), opOf z = none ∧ wordT (n.val + 1) z = none ∧ digOk z = true ∧ ∀ i : Fin 64, gS (i.val : Int) ≠ z := by decide +kernel
theorem bad_at {n : Nat} (n1 : 1 ≤ n) (n6 : n ≤ 6) {L : Let} (hL : idxG L) {v : Int} (v0 : 0 ≤ v) (v1 : v < 7) : ∃ x, atI (badL n) v = some x ∧ TokOk x ∧ tk n L x = none := by
  have key : ∀ z ∈ badS n, TokOk (.str z) ∧ tk n L (.str z) = none := fun z hz => by
    obtain ⟨m, rfl⟩ : ∃ m, n = m + 1 := ⟨n - 1, by omega⟩
    obtain ⟨h1, h2, h3, h4⟩ := bad_all ⟨m, by omega⟩ z hz
    exact ⟨h3, tk_none h1 h2 (look_none hL h4)⟩
  have : v = 0 ∨ v = 1 ∨ v = 2 ∨ v = 3 ∨ v = 4 ∨ v = 5 ∨ v = 6 := by omega
  rcases this with rfl | rfl | rfl | rfl | rfl | rfl | rfl
  · exact ⟨_, rfl, key _ (by simp [badS])⟩
  · exact ⟨_, rfl, key _ (by simp [badS])⟩
  · exact ⟨_, rfl, key _ (by simp [badS])⟩
  · exact ⟨_, rfl, rfl, rfl⟩
  · exact ⟨_, rfl, rfl, rfl⟩
  · exact ⟨_, rfl, key _ (by simp [badS])⟩
  · exact ⟨_, rfl, key _ (by simp [badS])⟩
theorem sh_ni (i : Int) : SeqAt.shaped (.list [.none, .int i]) = true := by simp [SeqAt.shaped, PyData.canLay0, PyData.canLayAll0, PyData.depth, PyData.depthAll]
theorem eq_ni (i : Int) : PyData.eqv (.list [.none, .int i]) (.list [.none, .int i]) = true := by simp [PyData.eqv, PyData.eqvAll]
theorem neNI {K : PySem.W.Frag} {H : Hp} {a b : Addr} {i : Int} {Q : VK} (ha : H a = some (.lst [.non, .int i])) (hb : H b = some (.lst [.non, .int i])) (k : Q (.bl false) H) : rNeD K (.ref a) (.ref b) H Q :=
  ⟨_, _, .lst (SqL.of ha) (.cons .non (.cons (.int i) .nil)), .lst (SqL.of hb) (.cons .non (.cons (.int i) .nil)), sh_ni i, sh_ni i, by rw [eq_ni]; exact k⟩
theorem eqNI {K : PySem.W.Frag} {H : Hp} {a b : Addr} {i : Int} {Q : VK} (ha : H a = some (.lst [.non, .int i])) (hb : H b = some (.lst [.non, .int i])) (k : Q (.bl true) H) : rEqD K (.ref a) (.ref b) H Q :=
  ⟨_, _, .lst (SqL.of ha) (.cons .non (.cons (.int i) .nil)), .lst (SqL.of hb) (.cons .non (.cons (.int i) .nil)), sh_ni i, sh_ni i, by rw [eq_ni]; exact k⟩
section
variable {P : Program} {w : World} {K : PySem.W.Frag} {mg : Str → Option Value} {base : Heap}
def sp_law_spoiled (T : Txt K mg) : Sp := fun vs H Q _ => ∃ (p q a l d D tl : Addr) (n : Nat) (ps : List Part) (L : Let) (t : Tm), vs = [.ref p, .ref a, .ref tl, .ref D] ∧ Dr H p q ∧ p ≠ q ∧ PoolAt T.C H a l d n ps ∧ 1 ≤ n ∧ n ≤ 6 ∧ ps.length ≤ 300 ∧ l ≠ p ∧
  H D = some (.dK (dS L)) ∧ L.length ≤ 1000 ∧ (∀ q ∈ L, q.2 < ps.length) ∧ idxG L ∧ t.good n L ∧ (∀ z ∈ t.toks, digOk z = true) ∧ t.toks.length ≤ 400 ∧ H tl = some (.lst (t.toks.map V.str)) ∧ tl ≠ p ∧
  ∀ H', Dr H' p q → Fr p H H' → Q (.bl true) H'
theorem sp_law_spoiled_len {T : Txt K mg} {vs H Q E} (h : sp_law_spoiled T vs H Q E) : vs.length = 4 := by obtain ⟨_, _, _, _, _, _, _, _, _, _, _, rfl, _⟩ := h; rfl
theorem ok_law_spoiled (T : Txt K mg) : FnOk P w K mg base CX0 9 T.f_law_spoiled T.fd_law_spoiled ["_law_draws_here", "_law_pool", "_law_tokens_here", "_law_letters"] (sp_law_spoiled T) := by
  have G_p_iter := ok_p_iter (P := P) (w := w) (base := base) T; have G_p_len := ok_p_len (P := P) (w := w) (base := base) T; have G_law_read := ok_law_read (P := P) (w := w) (base := base) T; have G_law_take := ok_law_take (P := P) (w := w) (base := base) T
  refine T.F_law_spoiled.ok sc_law_spoiled (fun vs H Q E h => sp_law_spoiled_len h) (fun cdv A outer s H vs Q E hr h => ?_)
  obtain ⟨p, q, a, l, d, D, tl, n, ps, L, t, rfl, dr, pq, hp, n1, n6, h300, lp, hD, L1000, hLp, hG, hg, hdig, l400, htl, tp, k⟩ := h
  have sz : sizeLine = 16777216 := sizeLine_eq
  refine ⟨_, (pss_cons (ps_set (i := 4) sc_law_spoiled.nd rfl (Or.inl rfl) (pe_callTy (call_listOwn2 T.m_p_iter.1 T.m_p_iter.2 T.m_p_len.1 (beq_iff_eq.mp T.m_p_len.2) G_p_iter T.b_p_iter G_p_len T.b_p_len rfl (hr.mono (by decide))) (by rfl) T.n_list (by decide +kernel) (pa_cons (pv 1) pa_nil)))
       (pss_cons (ps_for PassesOwn.never rfl (pi_range1 (by rfl) T.n_range (pa_cons pe_int pa_nil)) (pg_name (i := 5) sc_law_spoiled.nd rfl (Or.inl rfl))
        (pss_cons (ps_set (i := 6) sc_law_spoiled.nd rfl (Or.inl rfl) (pe_callTy call_listL (by rfl) T.n_list (by decide +kernel) (pa_cons (pv 2) pa_nil)))
       (pss_cons (ps_set (i := 7) sc_law_spoiled.nd rfl (Or.inl rfl) (pe_call G_law_take (hr.mono (by decide)) rfl T.g_law_take T.F_law_take.kp T.b_law_take .nil pass0 (pa_cons (pv 0) (pa_cons pe_int pa_nil))))
       (pss_cons (ps_set (i := 8) sc_law_spoiled.nd rfl (Or.inl rfl) (pe_call G_law_take (hr.mono (by decide)) rfl T.g_law_take T.F_law_take.kp T.b_law_take .nil pass0 (pa_cons (pv 0) (pa_cons (pe_callB call_lenL (by rfl) T.n_len (by decide +kernel) (pa_cons (pv 6) pa_nil)) pa_nil))))
       (Evl.pss_cut (ps_if (pt_cmpR op_eq (pv 7) pe_int (nomark _))
        (pss_one (ps_asg (pe_ix ix_list (pe_lst (pa_cons pe_str (pa_cons pe_str (pa_cons pe_str (pa_cons pe_int (pa_cons pe_non (pa_cons pe_str (pa_cons (pe_callTy call_str_int (by rfl) T.n_str (by decide +kernel) (pa_cons (pe_op op_shl pe_int (pe_fldA (pv 1))) pa_nil)) pa_nil)))))))) (pe_call G_law_take (hr.mono (by decide)) rfl T.g_law_take T.F_law_take.kp T.b_law_take .nil pass0 (pa_cons (pv 0) (pa_cons pe_int pa_nil))) (fun _ _ => rfl)) (pg_sub (pv 6) (pv 8) set_list)))
        (pss_one (ps_if (pt_cmpR op_eq (pv 7) pe_int (nomark _))
        (pss_cons (ps_set (i := 8) sc_law_spoiled.nd rfl (Or.inl rfl) (pe_callB call_lenL (by rfl) T.n_len (by decide +kernel) (pa_cons (pv 6) pa_nil)))
       (pss_one (ps_expr (pe_bm PySem.F.plainAttrs_list PySem.F.slot_list_append PySem.F.type_list_append mt_append (pv 6) (pa_cons (pe_ix ix_list (pv 6) (pe_call G_law_take (hr.mono (by decide)) rfl T.g_law_take T.F_law_take.kp T.b_law_take .nil pass0 (pa_cons (pv 0) (pa_cons (pe_callB call_lenL (by rfl) T.n_len (by decide +kernel) (pa_cons (pv 6) pa_nil)) pa_nil))) (fun _ _ => rfl)) pa_nil)))))
        (pss_one (ps_set (i := 6) sc_law_spoiled.nd rfl (Or.inl rfl) (pe_slice sl_list (pv 6) po_none (po_some (pv 8))))))))
       (pss_one (ps_if (PW.pt (pw_or (pt_cmpR (op_neD hr.units) (pe_call G_law_read hr rfl T.g_law_read T.F_law_read.kp T.b_law_read .nil pass0 (pa_cons (pv 1) (pa_cons (pv 6) (pa_cons (pv 3) pa_nil)))) (pe_lst (pa_cons pe_non (pa_cons (pv 8) pa_nil))) (nomark _)) (pw_or1 (pt_cmpR (op_neD hr.units) (pe_callTy (call_listOwn2 T.m_p_iter.1 T.m_p_iter.2 T.m_p_len.1 (beq_iff_eq.mp T.m_p_len.2) G_p_iter T.b_p_iter G_p_len T.b_p_len rfl (hr.mono (by decide))) (by rfl) T.n_list (by decide +kernel) (pa_cons (pv 1) pa_nil)) (pv 4) (nomark _)))))
        (pss_one (ps_ret pe_bl))
        pss_nil)))))))
       (pss_one (ps_ret (pe_cmpR (op_eqD hr.units) (pe_call G_law_read hr rfl T.g_law_read T.F_law_read.kp T.b_law_read .nil pass0 (pa_cons (pv 1) (pa_cons pe_non (pa_cons (pv 3) pa_nil)))) (pe_lst (pa_cons pe_non (pa_cons (pe_un un_neg pe_int) pa_nil))) (nomark _)))))), ?_⟩
  have tpos := toks_pos t
  have mlen : (t.toks.map V.str).length = t.toks.length := List.length_map _
  have htok : ∀ x ∈ t.toks.map V.str, TokOk x := fun x hx => by
    obtain ⟨z, hz, rfl⟩ := List.mem_map.mp hx
    exact hdig z hz
  obtain ⟨dx, l', ys, o1, o2, o3, o4, o5⟩ := listFacts T hp (by omega)
  refine ⟨_, rfl, a, dx, _, l', ys, rfl, o1, o2, o3, o4, fun g H1 hg0 s1 hg1 => ?_⟩
  have hgl := o5 g H1 s1 hg1
  have gp : g ≠ p := by obtain ⟨_, _, h1, _⟩ := dr; intro z; rw [z, h1] at hg0; cases hg0
  have hp1 := hp.news s1
  have dr1 := dr.news s1
  have hD1 := s1 _ _ hD
  have htl1 := s1 _ _ htl
  have Dp : D ≠ p := by obtain ⟨_, _, h1, _⟩ := dr; exact ne_of hD h1 (by intro z; cases z)
  clear o1 o2 o3 o4 o5
  refine ⟨3, rfl, by decide, by decide, ?_⟩
  have at1 : ∀ {H' : Hp}, Fr p H1 H' → PoolAt T.C H' a l d n ps ∧ LAt H' g ps ∧ H' D = some (.dK (dS L)) ∧ H' tl = some (.lst (t.toks.map V.str)) := fun {H'} f => by
    obtain ⟨_, _, h1, _⟩ := id dr1
    exact ⟨hp1.but h1 lp f, hgl.but h1 gp f, f _ _ hD1 Dp, f _ _ htl1 tp⟩
  refine for_range (lo := 0) (n := (3 : Int).toNat) (fun j σ' H' => ∃ v5 v6 v7 v8 : Option V, σ' = [some (.ref p), some (.ref a), some (.ref tl), some (.ref D), some (.ref g), v5, v6, v7, v8] ∧ Dr H' p q ∧ Fr p H1 H') ⟨none, none, none, none, rfl, dr1, fun b o e _ => e⟩ ?_ ?_
  · rintro j σ' H2 hj ⟨v5, v6, v7, v8, rfl, dr2, f2⟩
    obtain ⟨hp2, hgl2, hD2, htl2⟩ := at1 f2
    refine ⟨_, rfl, tl, _, rfl, SqL.of htl2, fun rr rr0 => ?_⟩
    have s3 := same_new (o := .lst (t.toks.map V.str)) rr0
    have hrr : upd H2 rr (.lst (t.toks.map V.str)) rr = some (.lst (t.toks.map V.str)) := upd_same
    have rp : rr ≠ p := by obtain ⟨_, _, h1, _⟩ := dr2; intro z; rw [z, h1] at rr0; cases rr0
    have rq : rr ≠ q := by obtain ⟨_, _, _, h1, _⟩ := dr2; intro z; rw [z, h1] at rr0; cases rr0
    have dr3 := dr2.news s3
    have f3 : Fr p H1 (upd H2 rr (.lst (t.toks.map V.str))) := fun b o e h => s3 _ _ (f2 _ _ e h)
    have rrN : ∀ b o, H1 b = some o → b ≠ p → b ≠ rr := fun b o e h z => by
      have := f2 _ _ e h
      rw [z, rr0] at this; cases this
    generalize upd H2 rr (.lst (t.toks.map V.str)) = H3 at s3 hrr dr3 f3 ⊢
    refine ⟨_, rfl, p, q, _, rfl, dr3, pq, by decide, fun H4 kd kd0 kd1 dr4 k4 => ?_⟩
    have hrr4 := k4 _ _ hrr rp
    have f4 : Fr p H1 H4 := f3.trans k4
    refine ⟨_, rfl, _, rfl, rr, _, rfl, SqL.of hrr4, p, q, _, rfl, dr4, pq, by rw [mlen]; omega, fun H5 i i0 i1 dr5 k5 => ?_⟩
    have hrr5 := k5 _ _ hrr4 rp
    have f5 : Fr p H1 H5 := f4.trans k5
    obtain ⟨i, rfl⟩ := Int.eq_ofNat_of_zero_le i0
    rw [mlen] at i1
    have il : i < t.toks.length := by omega
    have wrt : ∀ (H' : Hp) (o' : HO), Fr p H1 H' → Fr p H1 (upd H' rr o') := fun H' o' f b o e h => by
      rw [upd_ne (rrN b o e h)]; exact f b o e h
    refine ⟨fun σ' H' => ∃ (xs : List V) (i : Nat) (r' : Addr), σ' = [some (.ref p), some (.ref a), some (.ref tl), some (.ref D), some (.ref g), some (.int (0 + (j : Nat))), some (.ref r'), some (.int kd), some (.int (i : Nat))] ∧ H' r' = some (.lst xs) ∧ (∀ x ∈ xs, TokOk x) ∧ xs.length ≤ 1000 ∧ chk n L xs 0 1 = some i ∧ Dr H' p q ∧ Fr p H1 H', ?_, ?_⟩
    · refine ⟨_, rfl, rfl, _, rfl, ?_⟩
      by_cases h0 : kd = 0
      · subst h0
        refine iteP (by decide) ?_
        obtain ⟨hp5, _, _, _⟩ := at1 f5
        obtain ⟨dx5, ho5⟩ := id hp5.ob
        have lg : ∀ m : Fin 6, ((1 : Int) * 2 ^ (((m.val + 1 : Nat) : Int)).toNat).natAbs.log2 < 1920 := by decide +kernel
        have lgn : ((1 : Int) * 2 ^ (((n : Nat) : Int)).toNat).natAbs.log2 < 1920 := by
          obtain ⟨m, rfl⟩ : ∃ m, n = m + 1 := ⟨n - 1, by omega⟩
          exact lg ⟨m, by omega⟩
        refine ⟨_, rfl, a, T.C, dx5, _, _, rfl, ho5, T.cl, T.nA_width, look_width _ _ _, _, _, rfl, rfl, cpow1 (by omega) (by omega), _, rfl, lgn, by show 7 ≤ sizeLine; decide, fun b b0 => ?_⟩
        have s6 := same_new (o := .lst (badL n)) b0
        have hb6 : upd H5 b (.lst (badL n)) b = some (.lst (badL n)) := upd_same
        have bp : b ≠ p := by obtain ⟨_, _, h1, _⟩ := dr5; intro z; rw [z, h1] at b0; cases b0
        have dr6 := dr5.news s6
        have hrr6 := s6 _ _ hrr5
        have f6 : Fr p H1 (upd H5 b (.lst (badL n))) := fun b o e h => s6 _ _ (f5 _ _ e h)
        have eb : upd H5 b (.lst [.str "g99", .str "-1", .str "", .int 3, .non, .str "01", .str (decS (1 * 2 ^ (((n : Nat) : Int)).toNat))]) = upd H5 b (.lst (badL n)) := rfl
        refine ⟨_, rfl, p, q, _, rfl, dr6, pq, by decide, fun H7 v v0 v1 dr7 k7 => ?_⟩
        obtain ⟨x, hx, tx, nx⟩ := bad_at n1 n6 hG v0 v1
        have hrr7 := k7 _ _ hrr6 rp
        refine ⟨b, _, _, _, rfl, rfl, SqL.of (k7 _ _ hb6 bp), hx, ?_⟩
        refine ⟨_, rfl, _, rfl, rr, _, _, i, rfl, rfl, hrr7, by unfold ixN; rw [if_pos (by omega), if_pos (by rw [mlen]; omega)]; rfl, ?_⟩
        refine ⟨_, i, rr, rfl, upd_same, fun y hy => ?_, by rw [List.length_set, mlen]; omega, ?_, dr7.upd rp rq, wrt _ _ (f6.trans k7)⟩
        · rcases List.mem_or_eq_of_mem_set hy with h | h
          · exact htok y h
          · rw [h]; exact tx
        · rw [List.set_eq_take_append_cons_drop, if_pos (by rw [mlen]; exact il), ← List.map_take]
          exact chk_bad hg il nx _
      refine iteN (dF fun z => h0 (by injection z)) ?_
      refine ⟨_, rfl, rfl, _, rfl, ?_⟩
      by_cases h1 : kd = 1
      · subst h1
        refine iteP (by decide) ?_
        refine ⟨_, rfl, rr, _, rfl, SqL.of hrr5, ?_⟩
        refine ⟨_, rfl, .inl ⟨rfl, _, SqL.of hrr5⟩, _, rfl, _, rfl, _, rfl, rr, _, rfl, SqL.of hrr5, p, q, _, rfl, dr5, pq, by rw [mlen]; omega, fun H6 y y0 y1 dr6 k6 => ?_⟩
        have hrr6 := k6 _ _ hrr5 rp
        obtain ⟨y, rfl⟩ := Int.eq_ofNat_of_zero_le y0
        rw [mlen] at y1
        obtain ⟨z, hz⟩ : ∃ z, t.toks[y]? = some z := ⟨_, List.getElem?_eq_getElem (by omega)⟩
        have hat : atI (t.toks.map V.str) ((y : Nat) : Int) = some (.str z) := at_of (j := y) rfl (by rw [List.getElem?_map, hz]; rfl)
        refine ⟨rr, _, _, _, rfl, rfl, SqL.of hrr6, hat, ?_⟩
        refine ⟨rr, _, _, rfl, rfl, hrr6, by rw [mlen]; omega, ?_⟩
        refine ⟨t.toks.map V.str ++ [.str z], t.toks.length, rr, by rw [mlen]; rfl, upd_same, fun x hx => ?_, by rw [List.length_append, mlen, List.length_singleton]; omega, chk_more hg _ _, dr6.upd rp rq, wrt _ _ (f5.trans k6)⟩
        rcases List.mem_append.mp hx with h | h
        · exact htok x h
        · rw [List.mem_singleton.mp h]; exact hdig z (List.mem_of_getElem? hz)
      refine iteN (dF fun z => h1 (by injection z)) ?_
      refine ⟨_, rfl, _, rfl, _, rfl, rr, _, rfl, SqL.of hrr5, fun r2 r20 => ?_⟩
      rw [cutV_to (by rw [mlen]; omega)]
      have s6 := same_new (o := .lst ((t.toks.map V.str).take i)) r20
      exact ⟨(t.toks.map V.str).take i, i, r2, rfl, upd_same, fun x hx => htok x (List.mem_of_mem_take hx), by rw [List.length_take, mlen]; omega, by rw [← List.map_take]; exact chk_cut hg il, dr5.news s6, fun b o e h => s6 _ _ (f5 _ _ e h)⟩
    rintro σ' H6 ⟨xs, i', r', rfl, hr', htk, lx, hchk, dr6, f6⟩
    obtain ⟨hp6, hgl6, hD6, htl6⟩ := at1 f6
    refine ⟨_, rfl, _, rfl, _, rfl, a, l, d, D, n, ps, L, .ref r', rfl, hp6, by omega, by omega, hD6, L1000, hLp, .inr (.inl ⟨r', xs, i', rfl, .inl hr', htk, lx, hchk, fun H7 u s7 u0 hu => ?_⟩)⟩
    refine ⟨_, rfl, by show 2 ≤ sizeLine; decide, fun u2 u20 => ?_⟩
    have s8' := same_new (o := .lst [.non, .int (i' : Nat)]) u20
    have hu2 : upd H7 u2 (.lst [.non, .int (i' : Nat)]) u2 = some (.lst [.non, .int (i' : Nat)]) := upd_same
    have hu8 := s8' _ _ hu
    have s8 := s7.trans s8'
    generalize upd H7 u2 (.lst [.non, .int (i' : Nat)]) = H8 at s8 hu2 hu8 ⊢
    refine neNI hu8 hu2 ⟨_, rfl, iteN (by decide) ?_⟩
    have hp8 := hp6.news s8
    have hgl8 := hgl6.news s8
    obtain ⟨dx8, l2, ys2, q1, q2, q3, q4, q5⟩ := listFacts T hp8 (by omega)
    refine ⟨_, rfl, a, dx8, _, l2, ys2, rfl, q1, q2, q3, q4, fun g' H9 hg' s9 hg9 => ⟨_, rfl, neL (q5 g' H9 s9 hg9) (hgl8.news s9) ⟨_, rfl, iteN (by decide) ?_⟩⟩⟩
    exact ⟨_, _, _, _, rfl, (dr6.news s8).news s9, fun b o e h => s9 _ _ (s8 _ _ (f6 _ _ e h))⟩
  rintro σ' H2 ⟨v5, v6, v7, v8, rfl, dr2, f2⟩
  obtain ⟨hp2, hgl2, hD2, htl2⟩ := at1 f2
  refine ⟨_, rfl, _, rfl, a, l, d, D, n, ps, L, .non, rfl, hp2, by omega, by omega, hD2, L1000, hLp, .inl ⟨rfl, fun H3 u s3 u0 hu => ?_⟩⟩
  refine ⟨_, rfl, by show 2 ≤ sizeLine; decide, fun u2 u20 => ?_⟩
  have s4' := same_new (o := .lst [.non, .int (-1)]) u20
  have s4 := s3.trans s4'
  refine eqNI (s4' _ _ hu) upd_same (k _ (dr2.news s4) fun b o e h => s4 _ _ (f2 _ _ (s1 _ _ e) h))
end
end My

/-! LR -/
namespace My
open PySem L2
local macro_rules | `(tactic| walk_at "side") => `(tactic| first | with_reducible rfl | assumption | rfl | decide | omega | exact cpow1 (by omega) (by omega) | exact cdiv (by omega) (by omega) | exact two_pos _ | exact SqL.of (by assumption) | exact SqT.of (by assumption) | exact TyX.base (TyOf.int _) | exact TyX.base (TyOf.bl _) | exact TyX.base TyOf.non | exact scal_opt _ _ | exact k_ii | exact k_bi | exact k_ni | exact k_ib | exact k_bb | exact TyX.base (TyOf.lst (by assumption)) | exact k_ll | exact k_lt)
local macro_rules | `(tactic| walk_at "p") => `(tactic| repeat (first | refine And.intro (by walk_at "side") ?_ | apply Exists.intro | refine iteN (by assumption) ?_ | refine iteP (by assumption) ?_ | refine iteN (by decide) ?_ | refine iteP (by decide) ?_))

theorem inV_opL (z : Str) : inV (.str z) opList = (opOf z).isSome := by
  cases h : opOf z with
  | some o =>
    rw [opOf_of h]
    cases o <;> decide +kernel
  | none =>
    have no : ∀ o : Op, ¬ o.s = z := fun o e => by rw [← e, opOf_s] at h; cases h
    unfold inV opList
    have := no .add; have := no .sub; have := no .and; have := no .or; have := no .xor; have := no .less; have := no .same
    unfold Op.s at *
    simp [eqV, *]
/-! waiting operations -/
def EL (H : Hp) (t : Addr) (e : Op × Nat) : Prop := H t = some (.lst [.str e.1.s, .int (e.2 : Nat)])
def WL (H : Hp) (wl : Addr) (R : List (Op × Nat)) : Prop := ∃ ts : List Addr, H wl = some (.lst (ts.map V.ref)) ∧ ts.length = R.length ∧ ∀ (i : Nat) (e : Op × Nat), R[i]? = some e → ∃ t, ts[i]? = some t ∧ EL H t e
def PK (H H' : Hp) : Prop := ∀ b s i, H b = some (.lst [.str s, .int i]) → H' b = some (.lst [.str s, .int i])
theorem PK.new {H : Hp} {t : Addr} {o : HO} (h : H t = none) : PK H (upd H t o) := fun b s i e => (same_new h) _ _ e
theorem PK.nat {H : Hp} {t : Addr} {S : List Nat} {o : HO} (h : H t = some (.lst (natL S))) : PK H (upd H t o) := fun b s i e => by
  have : b ≠ t := fun z => by
    rw [z, h] at e
    have e := HO.lst.inj (Option.some.inj e)
    cases S with
    | nil => cases e
    | cons x r => cases e
  rw [upd_ne this]; exact e
theorem PK.refs {H : Hp} {t : Addr} {ts : List Addr} {o : HO} (h : H t = some (.lst (ts.map V.ref))) : PK H (upd H t o) := fun b s i e => by
  have : b ≠ t := fun z => by
    rw [z, h] at e
    have e := HO.lst.inj (Option.some.inj e)
    cases ts with
    | nil => cases e
    | cons x r => cases e
  rw [upd_ne this]; exact e
theorem PK.lmade {H H' : Hp} {l : Addr} {ps : List Part} (h : LAt H l ps) (f : ∀ b o, H b = some o → b ≠ l → H' b = some o) : PK H H' := fun b s i e => by
  obtain ⟨ts, h1, _⟩ := h
  refine f _ _ e fun z => ?_
  rw [z, h1] at e
  have e := HO.lst.inj (Option.some.inj e)
  cases ts with
  | nil => cases e
  | cons x r => cases e
theorem WL.keep {H H' : Hp} {wl : Addr} {R : List (Op × Nat)} (h : WL H wl R) (hw : ∀ xs, H wl = some (.lst xs) → H' wl = some (.lst xs)) (ht : PK H H') : WL H' wl R := by
  obtain ⟨ts, h1, h2, h3⟩ := h
  refine ⟨ts, hw _ h1, h2, fun i e hi => ?_⟩
  obtain ⟨t, e1, e2⟩ := h3 i e hi
  exact ⟨t, e1, ht _ _ _ e2⟩
theorem WL.push {H H' : Hp} {wl t : Addr} {R : List (Op × Nat)} {xs : List V} {e : Op × Nat} (h : WL H wl R) (hx : H wl = some (.lst xs)) (ht : PK H H') (hw : H' wl = some (.lst (xs ++ [.ref t]))) (et : EL H' t e) : WL H' wl (R ++ [e]) := by
  obtain ⟨ts, h1, h2, h3⟩ := h
  rw [h1] at hx
  cases hx
  refine ⟨ts ++ [t], by rw [hw, List.map_append]; rfl, by simp [h2], fun i f hi => ?_⟩
  rw [List.getElem?_append] at hi
  split at hi
  · rename_i hl
    obtain ⟨u, e1, e2⟩ := h3 i f hi
    exact ⟨u, by rw [List.getElem?_append, if_pos (by omega)]; exact e1, ht _ _ _ e2⟩
  · rename_i hl
    have hlt := (List.getElem?_eq_some_iff.mp hi).1
    simp at hlt
    have ei : i - R.length = 0 := by omega
    rw [ei] at hi
    cases hi
    exact ⟨t, by rw [List.getElem?_append, if_neg (by omega), h2, ei]; rfl, et⟩
theorem WL.last {H : Hp} {wl : Addr} {R : List (Op × Nat)} {e : Op × Nat} (h : WL H wl (R ++ [e])) : ∃ (ts : List Addr) (t : Addr), H wl = some (.lst (ts.map V.ref ++ [.ref t])) ∧ ts.length = R.length ∧ EL H t e ∧ ∀ H' : Hp, H' wl = some (.lst (ts.map V.ref)) → PK H H' → WL H' wl R := by
  obtain ⟨ts, h1, h2, h3⟩ := h
  obtain ⟨t, e1, e2⟩ := h3 R.length e (by simp)
  rcases ts.eq_nil_or_concat with rfl | ⟨ts', t', rfl⟩
  · simp at h2
  rw [List.concat_eq_append] at *
  have hl : ts'.length = R.length := by simp at h2; exact h2
  have : t' = t := by
    rw [List.getElem?_append_right (by omega), hl, Nat.sub_self] at e1
    exact Option.some.inj e1
  subst this
  refine ⟨ts', t', by rw [h1, List.map_append]; rfl, hl, e2, fun H' hw ht => ⟨ts', hw, hl, fun i f hi => ?_⟩⟩
  have hlt := (List.getElem?_eq_some_iff.mp hi).1
  obtain ⟨u, e3, e4⟩ := h3 i f (by rw [List.getElem?_append_left hlt]; exact hi)
  rw [List.getElem?_append_left (by omega)] at e3
  exact ⟨u, e3, ht _ _ _ e4⟩
theorem red_stuck (n : Nat) (o : Op) (Wt : List (Op × Nat)) (St : List Nat) (ps : List Part) {dp : Nat} (h : dp + 2 ≠ St.length) : red n ((o, dp) :: Wt) St ps = ((o, dp) :: Wt, St, ps) := by
  rcases St with _ | ⟨y, _ | ⟨x, r⟩⟩
  · rfl
  · rfl
  · rw [red, if_neg (by simpa using h)]
def G3 : List Part := [.get 2, .get 0, .get 1]
def L3 : Let := [(gS 2, 0), (gS 0, 1), (gS 1, 2)]
theorem g3_step {j : Nat} (hj : j < 3) : ∃ i : Int, [V.int 2, .int 0, .int 1][j]? = some (.int i) ∧ 0 ≤ i ∧ i < 64 ∧ mk (G3.take j) (.get i) = (j, G3.take (j + 1)) ∧ G3.take (j + 1) = G3.take j ++ [.get i] ∧ putK (dS (L3.take j)) (.inr (gS i)) (.int (j : Nat)) = dS (L3.take (j + 1)) := by
  have : j = 0 ∨ j = 1 ∨ j = 2 := by omega
  rcases this with rfl | rfl | rfl
  · exact ⟨2, rfl, by decide, by decide, by decide +kernel, rfl, by decide +kernel⟩
  · exact ⟨0, rfl, by decide, by decide, by decide +kernel, rfl, by decide +kernel⟩
  · exact ⟨1, rfl, by decide, by decide, by decide +kernel, rfl, by decide +kernel⟩
theorem l3_word : ∀ m : Fin 6, ∀ q ∈ L3, wordT (m.val + 1) q.1 = none := by decide +kernel
theorem lookS_mem {L : Let} {z : Str} {k : Nat} (h : lookS L z = some k) : (z, k) ∈ L := by
  unfold lookS at h
  cases hf : L.find? fun q => decide (q.1 = z) with
  | none => rw [hf] at h; cases h
  | some q =>
    rw [hf] at h
    cases h
    have h2 : decide (q.1 = z) = true := List.find?_some (p := fun q : Str × Nat => decide (q.1 = z)) hf
    have hq := of_decide_eq_true h2
    have := List.mem_of_find?_eq_some hf
    rw [← hq]; exact this
theorem eq1 {K : PySem.W.Frag} {H : Hp} {a b : Addr} {i : Int} {Q : VK} (ha : H a = some (.lst [.int i])) (hb : H b = some (.lst [.int i])) (k : Q (.bl true) H) : rEqD K (.ref a) (.ref b) H Q := eqI (ws := [i]) (SqL.of ha) (SqL.of hb) k
/-- the parts so far and the operations waiting, by tokens -/
structure RI (n : Nat) (t : Tm) (j : Nat) (Wt : List (Op × Nat)) (St : List Nat) (ps : List Part) : Prop where
  there : ∀ k ∈ St, k < ps.length
  len : ps.length + Wt.length ≤ 3 + j
  pre : G3 <+: ps
  stl : St.length ≤ j
section
variable {P : Program} {w : World} {K : PySem.W.Frag} {mg : Str → Option Value} {base : Heap}
def sp_law_read_new (T : Txt K mg) : Sp := fun vs H Q _ => ∃ (tl : Addr) (n : Nat) (t : Tm), vs = [.int n, .ref tl] ∧ 1 ≤ n ∧ n ≤ 6 ∧ H tl = some (.lst (t.toks.map V.str)) ∧ t.good n L3 ∧ (∀ z ∈ t.toks, digOk z = true) ∧ t.toks.length ≤ 400 ∧ ∀ H', Same H H' → Q (.bl true) H'
theorem sp_law_read_new_len {T : Txt K mg} {vs H Q E} (h : sp_law_read_new T vs H Q E) : vs.length = 2 := by obtain ⟨_, _, _, rfl, _⟩ := h; rfl
theorem ok_law_read_new (T : Txt K mg) : FnOk P w K mg base CX0 9 T.f_law_read_new T.fd_law_read_new ["_law_width", "_law_tokens_here"] (sp_law_read_new T) := by
  have G_p_iter := ok_p_iter (P := P) (w := w) (base := base) T; have G_p_len := ok_p_len (P := P) (w := w) (base := base) T; have G_p_unknown := ok_p_unknown (P := P) (w := w) (base := base) T; have G_p_init := ok_p_init (P := P) (w := w) (base := base) T; have G_law_apply := ok_law_apply (P := P) (w := w) (base := base) T; have G_law_keep := ok_law_keep (P := P) (w := w) (base := base) T; have G_law_ops := ok_law_ops (P := P) (w := w) (base := base) T; have G_law_read := ok_law_read (P := P) (w := w) (base := base) T
  refine T.F_law_read_new.ok sc_law_read_new (fun vs H Q E h => sp_law_read_new_len h) (fun cdv A outer s H vs Q E hr h => ?_)
  obtain ⟨tl, n, t, rfl, n1, n6, htl, hg, hdig, l400, k⟩ := h
  have sz : sizeLine = 16777216 := sizeLine_eq
  have mlen : (t.toks.map V.str).length = t.toks.length := List.length_map _
  refine ⟨_, (pss_cons (ps_set (i := 2) sc_law_read_new.nd rfl (Or.inl rfl) (pe_make T.M_Pool G_p_init (hr.mono (by decide)) rfl T.g_Pool T.b_p_init .nil pass0 (pa_cons (pv 0) pa_nil)))
       (pss_cons (ps_set (i := 3) sc_law_read_new.nd rfl (Or.inl rfl) pe_dnewK)
       (pss_cons (ps_set (i := 4) sc_law_read_new.nd rfl (Or.inl rfl) (pe_lst pa_nil))
       (pss_cons (ps_for PassesOwn.never rfl (pi_list (pe_lst (pa_cons pe_int (pa_cons pe_int (pa_cons pe_int pa_nil))))) (pg_name (i := 5) sc_law_read_new.nd rfl (Or.inl rfl))
        (pss_cons (ps_dput (hu_of hr) (pv 3) (pe_op op_add_str pe_str (pe_callTy call_str_int (by rfl) T.n_str (by decide +kernel) (pa_cons (pv 5) pa_nil))) (pe_meth (pv 2) T.cl T.m_p_unknown G_p_unknown (hr.mono (by decide)) T.b_p_unknown .nil passL (pa_cons (pv 5) pa_nil)) rfl)
       (pss_one (ps_expr (pe_bm PySem.F.plainAttrs_list PySem.F.slot_list_append PySem.F.type_list_append mt_append (pv 4) (pa_cons (pe_tup (pa_cons pe_str (pa_cons (pv 5) pa_nil))) pa_nil))))))
       (pss_cons (ps_set (i := 6) sc_law_read_new.nd rfl (Or.inl rfl) (pe_lst pa_nil))
       (pss_cons (ps_set (i := 7) sc_law_read_new.nd rfl (Or.inl rfl) (pe_lst pa_nil))
       (pss_cons (ps_for PassesOwn.never rfl (pi_list (pv 1)) (pg_name (i := 8) sc_law_read_new.nd rfl (Or.inl rfl))
        (Evl.pss_cut (ps_if (pt_cmpR op_in_seq (pv 8) (pe_call0 G_law_ops (hr.mono (by decide)) rfl T.g_law_ops T.F_law_ops.kp T.b_law_ops .nil pass0) (by rfl))
        (pss_one (ps_expr (pe_bm PySem.F.plainAttrs_list PySem.F.slot_list_append PySem.F.type_list_append mt_append (pv 7) (pa_cons (pe_lst (pa_cons (pv 8) (pa_cons (pe_callB call_lenL (by rfl) T.n_len (by decide +kernel) (pa_cons (pv 6) pa_nil)) pa_nil))) pa_nil))))
        (pss_one (ps_if (pt_cmp (pc_din (hu_of hr) (pv 8) (pv 3)))
        (pss_one (ps_expr (pe_bm PySem.F.plainAttrs_list PySem.F.slot_list_append PySem.F.type_list_append mt_append (pv 6) (pa_cons (pe_dget (hu_of hr) (pv 3) (pv 8) (fun _ _ => rfl)) pa_nil))))
        (pss_one (ps_expr (pe_bm PySem.F.plainAttrs_list PySem.F.slot_list_append PySem.F.type_list_append mt_append (pv 6) (pa_cons (pe_call G_law_keep (hr.mono (by decide)) rfl T.g_law_keep T.F_law_keep.kp T.b_law_keep .nil pass0 (pa_cons (pv 4) (pa_cons (pe_tup (pa_cons pe_str (pa_cons (pe_callTy call_int_str (by rfl) T.n_int (by decide +kernel) (pa_cons (pv 8) pa_nil)) pa_nil))) pa_nil))) pa_nil)))))))
       (pss_one (ps_for PassesOwn.never rfl (pi_range1 (by rfl) T.n_range (pa_cons (pe_callB call_lenL (by rfl) T.n_len (by decide +kernel) (pa_cons (pv 7) pa_nil)) pa_nil)) (pg_name (i := 9) sc_law_read_new.nd rfl (Or.inl rfl))
        (pss_one (ps_if (PW.pt (pw_and (pt_cmpR op_gt (pe_callB call_lenL (by rfl) T.n_len (by decide +kernel) (pa_cons (pv 7) pa_nil)) pe_int (nomark _)) (pw_and1 (pt_cmpR op_eq (pe_op op_add (pe_ix ix_list (pe_ix ix_list (pv 7) (pe_op op_sub (pe_callB call_lenL (by rfl) T.n_len (by decide +kernel) (pa_cons (pv 7) pa_nil)) pe_int) (fun _ _ => rfl)) pe_int (fun _ _ => rfl)) pe_int) (pe_callB call_lenL (by rfl) T.n_len (by decide +kernel) (pa_cons (pv 6) pa_nil)) (nomark _)))))
        (pss_cons (ps_set (i := 10) sc_law_read_new.nd rfl (Or.inl rfl) (pe_bm0 PySem.F.plainAttrs_list PySem.F.slot_list_pop PySem.F.type_list_pop mt_pop (pv 6)))
       (pss_cons (ps_set (i := 11) sc_law_read_new.nd rfl (Or.inl rfl) (pe_bm0 PySem.F.plainAttrs_list PySem.F.slot_list_pop PySem.F.type_list_pop mt_pop (pv 6)))
       (pss_one (ps_expr (pe_bm PySem.F.plainAttrs_list PySem.F.slot_list_append PySem.F.type_list_append mt_append (pv 6) (pa_cons (pe_call G_law_apply (hr.mono (by decide)) rfl T.g_law_apply T.F_law_apply.kp T.b_law_apply .nil pass0 (pa_cons (pv 4) (pa_cons (pv 0) (pa_cons (pe_ix ix_list (pe_bm0 PySem.F.plainAttrs_list PySem.F.slot_list_pop PySem.F.type_list_pop mt_pop (pv 7)) pe_int (fun _ _ => rfl)) (pa_cons (pv 11) (pa_cons (pv 10) pa_nil)))))) pa_nil))))))
        pss_nil))))))
       (pss_one (ps_ret (pe_and (pe_cmpR (op_eqD hr.units) (pe_call G_law_read hr rfl T.g_law_read T.F_law_read.kp T.b_law_read .nil pass0 (pa_cons (pv 2) (pa_cons (pe_callTy call_tupleL (by rfl) T.n_tuple (by decide +kernel) (pa_cons (pv 1) pa_nil)) (pa_cons (pv 3) pa_nil)))) (pe_lst (pa_cons (pe_ix ix_list (pv 6) pe_int (fun _ _ => rfl)) pa_nil)) (nomark _)) (pe_one (pe_cmpR (op_eqD hr.units) (pe_callTy (call_listOwn2 T.m_p_iter.1 T.m_p_iter.2 T.m_p_len.1 (beq_iff_eq.mp T.m_p_len.2) G_p_iter T.b_p_iter G_p_len T.b_p_len rfl (hr.mono (by decide))) (by rfl) T.n_list (by decide +kernel) (pa_cons (pv 2) pa_nil)) (pv 4) (nomark _))))))))))))), ?_⟩
  -- the pool
  refine ⟨_, rfl, fun a dxa ha hdxa hne => ⟨a, dxa, n, rfl, upd_same, n1, by omega, fun H1 l d hl hd ld hp1 f1 => ⟨rfl, ?_⟩⟩⟩
  obtain ⟨s1, hl, hd⟩ := mkFacts ha hdxa hl hd f1
  -- names, made
  intro D hD
  have s2' := same_new (o := .dK []) hD
  have s2 := s1.trans s2'
  have hD2 : upd H1 D (.dK []) D = some (.dK []) := upd_same
  have DN : H D = none := s1.free hD
  have Dl : D ≠ l := by obtain ⟨_, e, _⟩ := id hp1.lst; intro z; rw [z, e] at hD; cases hD
  have Dd : D ≠ d := by intro z; rw [z, hp1.dic] at hD; cases hD
  have hp2 := hp1.news s2'
  generalize upd H1 D (.dK []) = H2 at s2 hD2 hp2 ⊢
  refine ⟨Nat.zero_le _, fun ml ml0 => ?_⟩
  have s3' := same_new (o := .lst []) ml0
  have s3 := s2.trans s3'
  have hm3 : upd H2 ml (.lst []) ml = some (.lst []) := upd_same
  have mlN : H ml = none := s2.free ml0
  have mll : ml ≠ l := by obtain ⟨_, e, _⟩ := id hp2.lst; intro z; rw [z, e] at ml0; cases ml0
  have mld : ml ≠ d := by intro z; rw [z, hp2.dic] at ml0; cases ml0
  have mlD : ml ≠ D := by intro z; rw [z, hD2] at ml0; cases ml0
  have hp3 := hp2.news s3'
  have hD3 := s3' _ _ hD2
  generalize upd H2 ml (.lst []) = H3 at s3 hm3 hp3 hD3 ⊢
  refine ⟨by show 3 ≤ sizeLine; decide, fun il il0 => ⟨il, rfl, ⟨_, SqL.of upd_same⟩, ?_⟩⟩
  have s4' := same_new (o := .lst [.int 2, .int 0, .int 1]) il0
  have s4 := s3.trans s4'
  have hil : upd H3 il (.lst [.int 2, .int 0, .int 1]) il = some (.lst [.int 2, .int 0, .int 1]) := upd_same
  have ilN : H il = none := s3.free il0
  have hp4 := hp3.news s4'
  have hD4 := s4' _ _ hD3
  have hm4 := s4' _ _ hm3
  have ill : il ≠ l := by obtain ⟨_, e, _⟩ := id hp3.lst; intro z; rw [z, e] at il0; cases il0
  have ild : il ≠ d := by intro z; rw [z, hp3.dic] at il0; cases il0
  have ilD : il ≠ D := by intro z; rw [z, hD3] at il0; cases il0
  have ilm : il ≠ ml := by intro z; rw [z, hm3] at il0; cases il0
  generalize upd H3 il (.lst [.int 2, .int 0, .int 1]) = H4 at s4 hil hp4 hD4 hm4 ⊢
  refine for_list (K := K) (a := il) (xs := [.int 2, .int 0, .int 1]) (fun j σ' H5 => ∃ v5 : Option V, σ' = [some (.int (n : Nat)), some (.ref tl), some (.ref a), some (.ref D), some (.ref ml), v5, none, none, none, none, none, none] ∧ PoolAt T.C H5 a l d n (G3.take j) ∧ LAt H5 ml (G3.take j) ∧ H5 D = some (.dK (dS (L3.take j))) ∧ H5 il = some (.lst [.int 2, .int 0, .int 1]) ∧ Same H H5)
    ⟨none, rfl, hp4, ⟨[], hm4, rfl, fun i q e => by have e' : ([] : List Part)[i]? = some q := e; simp at e'⟩, hD4, hil, s4⟩ ?_ ?_ ?_
  · rintro j σ' H5 _ ⟨_, _, _, _, _, h, _⟩
    exact SqL.of h
  · rintro j x σ' H5 hj ⟨v5, rfl, hp5, hm5, hD5, hil5, s5⟩
    have hj3 : j < 3 := (List.getElem?_eq_some_iff.mp hj).1
    obtain ⟨i, e1, i0, i1, e2, e3, e4⟩ := g3_step hj3
    rw [hj] at e1
    cases e1
    have g3l : (G3.take j).length ≤ 3 := by rw [List.length_take]; show min j 3 ≤ 3; omega
    have l3l : (L3.take j).length ≤ 3 := by rw [List.length_take]; show min j 3 ≤ 3; omega
    obtain ⟨dx5, ho5⟩ := id hp5.ob
    refine ⟨_, rfl, a, dx5, _, rfl, ho5, no_meth (by decide +kernel), _, rfl, a, l, d, n, _, i, rfl, hp5, by omega, i0, by omega, ?_⟩
    rw [e2]
    refine Made.x (fun H6 hp6 f6 => ?_) (by rw [e3, List.length_append, List.length_singleton]; omega)
    have hm6 : LAt H6 ml (G3.take j) := by
      obtain ⟨_, e, _⟩ := id hp5.lst
      exact hm5.but2 e hp5.dic mll f6
    have hD6 := f6 _ _ hD5 Dl Dd
    have hil6 := f6 _ _ hil5 ill ild
    have none6 : ∀ b o, H b = some o → b ≠ l ∧ b ≠ d := fun b o e => ⟨fun z => (by rw [z, hl] at e; cases e), fun z => (by rw [z, hd] at e; cases e)⟩
    have s6 : Same H H6 := fun b o e => f6 _ _ (s5 _ _ e) (none6 _ _ e).1 (none6 _ _ e).2
    refine ⟨_, rfl, _, rfl, i, rfl, log_small i0 i1, "g", decS i, rfl, rfl, by rw [show ("g" : Str).length = 1 from by decide]; have := (small_dec i0 i1).1; omega, D, _, rfl, DPut.k (k := Sum.inr (gS i)) hD6 (by rw [dS_len]; omega), ?_⟩
    rw [e4]
    have hp7 : PoolAt T.C (upd H6 D (.dK (dS (L3.take (j + 1))))) a l d n (G3.take (j + 1)) := by
      obtain ⟨_, ob⟩ := id hp6.ob
      exact hp6.keep (S := fun x => x = D) (fun b o e hb => by rw [upd_ne hb]; exact e) (ne_of ob hD6 (by intro z; cases z)) Dl.symm Dd.symm fun t xs e => ne_of e hD6 (by intro z; cases z)
    have hm7 : LAt (upd H6 D (.dK (dS (L3.take (j + 1))))) ml (G3.take j) := hm6.keep (S := fun x => x = D) (fun b o e hb => by rw [upd_ne hb]; exact e) mlD fun t xs e => ne_of e hD6 (by intro z; cases z)
    have hD7 : upd H6 D (.dK (dS (L3.take (j + 1)))) D = some (.dK (dS (L3.take (j + 1)))) := upd_same
    have hil7 : upd H6 D (.dK (dS (L3.take (j + 1)))) il = some (.lst [.int 2, .int 0, .int 1]) := by rw [upd_ne ilD]; exact hil6
    have s7 : Same H (upd H6 D (.dK (dS (L3.take (j + 1))))) := fun b o e => by rw [upd_ne (ne_of_none e DN)]; exact s6 _ _ e
    generalize upd H6 D (.dK (dS (L3.take (j + 1)))) = H7 at hp7 hm7 hD7 hil7 s7 ⊢
    obtain ⟨xs7, hX7, ex7, _⟩ := hm7.item
    refine ⟨_, rfl, .inl ⟨rfl, _, SqL.of hX7⟩, _, rfl, by show 2 ≤ sizeLine; decide, fun u u0 => ?_⟩
    have s8 := same_new (o := .tup (Part.get i).vals) u0
    have um : u ≠ ml := by intro z; rw [z, hX7] at u0; cases u0
    have hX8 := s8 _ _ hX7
    refine ⟨ml, _, _, rfl, rfl, hX8, by omega, _, rfl, ?_, ?_, ?_, ?_, fun b o e => ?_⟩
    · exact (hp7.news s8).but hX8 mll.symm fun b o e hb => by rw [upd_ne hb]; exact e
    · rw [e3]
      exact (hm7.news s8).push hX8 (fun b ys e => by rw [upd_ne (ne_of e hX8 (by intro z; cases z))]; exact e) upd_same (by rw [upd_ne um]; exact upd_same)
    · rw [upd_ne mlD.symm]; exact s8 _ _ hD7
    · rw [upd_ne ilm]; exact s8 _ _ hil7
    · rw [upd_ne (ne_of_none e mlN)]; exact s8 _ _ (s7 _ _ e)
  rintro σ' H5 ⟨v5, rfl, hp5, hm5, hD5, hil5, s5⟩
  have eG : G3.take [V.int 2, .int 0, .int 1].length = G3 := rfl
  have eL : L3.take [V.int 2, .int 0, .int 1].length = L3 := rfl
  rw [eG] at hp5 hm5
  rw [eL] at hD5
  -- stack, waiting
  refine ⟨Nat.zero_le _, fun sl sl0 => ?_⟩
  have s6' := same_new (o := .lst []) sl0
  have hs6 : upd H5 sl (.lst []) sl = some (.lst []) := upd_same
  have hm6 := hm5.news s6'
  have slm : sl ≠ ml := by obtain ⟨_, e, _⟩ := id hm5; intro z; rw [z, e] at sl0; cases sl0
  generalize upd H5 sl (.lst []) = H6 at s6' hs6 hm6 ⊢
  refine ⟨Nat.zero_le _, fun wl wl0 => ?_⟩
  have s7' := same_new (o := .lst []) wl0
  have hw7 : upd H6 wl (.lst []) wl = some (.lst []) := upd_same
  have hs7 := s7' _ _ hs6
  have hm7 := hm6.news s7'
  have wlm : wl ≠ ml := by obtain ⟨_, e, _⟩ := id hm6; intro z; rw [z, e] at wl0; cases wl0
  have wls : wl ≠ sl := by intro z; rw [z, hs6] at wl0; cases wl0
  have wl5 : H5 wl = none := s6'.free wl0
  have s57 := s6'.trans s7'
  generalize upd H6 wl (.lst []) = H7 at s7' hw7 hs7 hm7 s57 ⊢
  have tlm : tl ≠ ml := ne_of_none htl mlN
  have htl5 := s5 _ _ htl
  refine ⟨_, rfl, tl, rfl, ⟨_, SqL.of (s57 _ _ htl5)⟩, ?_⟩
  have m6 : n = n - 1 + 1 := by omega
  refine for_list (K := K) (a := tl) (xs := t.toks.map V.str) (fun j σ' H8 => ∃ (Wt : List (Op × Nat)) (St : List Nat) (ps : List Part) (v8 v9 v10 v11 : Option V), rrun n L3 ([], [], G3) (t.toks.take j) = (Wt, St, ps) ∧ RI n t j Wt St ps ∧ WL H8 wl Wt.reverse ∧ H8 sl = some (.lst (natL St.reverse)) ∧ LAt H8 ml ps ∧ Fr ml H5 H8 ∧ σ' = [some (.int (n : Nat)), some (.ref tl), some (.ref a), some (.ref D), some (.ref ml), v5, some (.ref sl), some (.ref wl), v8, v9, v10, v11])
    ⟨[], [], G3, none, none, none, none, rfl, ⟨fun k hk => (by cases hk), Nat.le_refl _, List.prefix_refl _, Nat.le_refl _⟩, ⟨[], hw7, rfl, fun i e h => by simp at h⟩, hs7, hm7, fun b o e _ => s57 _ _ e, rfl⟩ ?_ ?_ ?_
  · rintro j σ' H8 _ ⟨_, _, _, _, _, _, _, _, _, _, _, _, f, _⟩
    exact SqL.of (f _ _ htl5 tlm)
  · rintro j x σ' H8 hj ⟨Wt, St, ps, v8, v9, v10, v11, hrun, ri, hw8, hs8, hm8, f8, rfl⟩
    have hjl := (List.getElem?_eq_some_iff.mp hj).1
    rw [mlen] at hjl
    rw [List.getElem?_map] at hj
    obtain ⟨z, hz, rfl⟩ : ∃ z, t.toks[j]? = some z ∧ x = V.str z := by
      cases h : t.toks[j]? with
      | none => rw [h] at hj; cases hj
      | some z => rw [h] at hj; exact ⟨z, rfl, (Option.some.inj hj).symm⟩
    have hdz := hdig z (List.mem_of_getElem? hz)
    have etk : t.toks.take (j + 1) = t.toks.take j ++ [z] := by rw [List.take_succ, hz]; rfl
    have hrun2 := rrun_snoc n L3 ([], [], G3) (t.toks.take j) z
    rw [← etk, hrun] at hrun2
    unfold rstep at hrun2
    obtain ⟨tsw, hW, ewl, _⟩ := id hw8
    have rpl := ri.len
    have rsl := ri.stl
    have sN : ∀ b o, H5 b = some o → b ≠ sl ∧ b ≠ wl := fun b o e => ⟨ne_of_none e sl0, ne_of_none e wl5⟩
    -- the token is put on
    refine ⟨fun σ' H9 => ∃ (Wt1 : List (Op × Nat)) (St1 : List Nat) (ps1 : List Part), red n Wt1 St1 ps1 = rrun n L3 ([], [], G3) (t.toks.take (j + 1)) ∧ RI n t (j + 1) Wt1 St1 ps1 ∧ WL H9 wl Wt1.reverse ∧ H9 sl = some (.lst (natL St1.reverse)) ∧ LAt H9 ml ps1 ∧ Fr ml H5 H9 ∧ σ' = [some (.int (n : Nat)), some (.ref tl), some (.ref a), some (.ref D), some (.ref ml), v5, some (.ref sl), some (.ref wl), some (.str z), v9, v10, v11], ?_, ?_⟩
    · refine ⟨_, rfl, rfl, fun N hN => ?_⟩
      have s9 := same_new (o := .lst opList) hN
      have hio : (if false = true then !inV (.str z) opList else inV (.str z) opList) = (opOf z).isSome := by rw [if_neg (by decide), inV_opL]
      have hNN : upd H8 N (.lst opList) N = some (.lst opList) := upd_same
      have hw9 := hw8.keep (H' := upd H8 N (.lst opList)) (fun xs e => s9 _ _ e) (PK.new hN)
      have hs9 := s9 _ _ hs8
      have hm9 := hm8.news s9
      have f9 : Fr ml H5 (upd H8 N (.lst opList)) := fun b o e h => s9 _ _ (f8 _ _ e h)
      have hW9 := s9 _ _ hW
      generalize upd H8 N (.lst opList) = H9 at s9 hNN hw9 hs9 hm9 f9 hW9 ⊢
      refine ⟨N, opList, rfl, .inl (SqL.of hNN), rfl, rfl, _, rfl, ?_⟩
      cases ho : opOf z with
      | some o =>
        rw [ho] at hio hrun2
        refine iteP hio ?_
        refine ⟨_, rfl, .inl ⟨rfl, _, SqL.of hW9⟩, _, rfl, _, rfl, sl, _, rfl, SqL.of hs9, by show 2 ≤ sizeLine; decide, fun u u0 => ?_⟩
        rw [natL_len, List.length_reverse]
        have s10 := same_new (o := .lst [.str z, .int (St.length : Nat)]) u0
        have hu : upd H9 u (.lst [.str z, .int (St.length : Nat)]) u = some (.lst [.str z, .int (St.length : Nat)]) := upd_same
        have hw10 := hw9.keep (H' := upd H9 u (.lst [.str z, .int (St.length : Nat)])) (fun xs e => s10 _ _ e) (PK.new u0)
        have hs10 := s10 _ _ hs9
        have hm10 := hm9.news s10
        have f10 : Fr ml H5 (upd H9 u (.lst [.str z, .int (St.length : Nat)])) := fun b o e h => s10 _ _ (f9 _ _ e h)
        have hW10 := s10 _ _ hW9
        have uw : u ≠ wl := by intro zz; rw [zz, hW9] at u0; cases u0
        generalize upd H9 u (.lst [.str z, .int (St.length : Nat)]) = HA at s10 hu hw10 hs10 hm10 f10 hW10 ⊢
        refine ⟨wl, _, _, rfl, rfl, hW10, by rw [List.length_map, ewl, List.length_reverse]; omega, ?_⟩
        refine ⟨(o, St.length) :: Wt, St, ps, ?_, ⟨ri.there, by rw [List.length_cons]; omega, ri.pre, by omega⟩, ?_, ?_, ?_, fun b oo e h => ?_, rfl⟩
        · rw [red_stuck n o Wt St ps (by omega)]; exact hrun2.symm
        · rw [List.reverse_cons]
          refine WL.push hw10 hW10 (PK.refs hW10) upd_same ?_
          show upd HA wl _ u = _
          rw [upd_ne uw, hu, opOf_of ho]
        · rw [upd_ne wls.symm]; exact hs10
        · exact hm10.but hW10 wlm.symm fun b oo e hb => by rw [upd_ne hb]; exact e
        · rw [upd_ne (sN _ _ e).2]; exact f10 _ _ e h
      | none =>
        rw [ho] at hio hrun2
        refine iteN (fun zz => by rw [hio] at zz; cases zz) ?_
        have hgz := good_tok t hg (List.mem_of_getElem? hz) ho
        have hD9 := f9 _ _ hD5 mlD.symm
        refine ⟨_, rfl, _, rfl, D, _, rfl, .inl ⟨_, .inr z, Rd.of hD9, rfl, rfl⟩, _, rfl, ?_⟩
        rw [valV_dS]
        -- one more number on the stack
        have fin : ∀ (HA : Hp) (k : Nat) (ps1 : List Part), opd n L3 ps z = (k, ps1) → WL HA wl Wt.reverse → HA sl = some (.lst (natL St.reverse)) → LAt HA ml ps1 → Fr ml H5 HA → k < ps1.length → ps1.length ≤ ps.length + 1 → ps <+: ps1 →
            ∃ (Wt1 : List (Op × Nat)) (St1 : List Nat) (ps2 : List Part), red n Wt1 St1 ps2 = rrun n L3 ([], [], G3) (t.toks.take (j + 1)) ∧ RI n t (j + 1) Wt1 St1 ps2 ∧ WL (upd HA sl (.lst (natL St.reverse ++ [.int (k : Nat)]))) wl Wt1.reverse ∧ upd HA sl (.lst (natL St.reverse ++ [.int (k : Nat)])) sl = some (.lst (natL St1.reverse)) ∧ LAt (upd HA sl (.lst (natL St.reverse ++ [.int (k : Nat)]))) ml ps2 ∧ Fr ml H5 (upd HA sl (.lst (natL St.reverse ++ [.int (k : Nat)]))) ∧ [some (V.int (n : Nat)), some (.ref tl), some (.ref a), some (.ref D), some (.ref ml), v5, some (.ref sl), some (.ref wl), some (.str z), v9, v10, v11] = [some (V.int (n : Nat)), some (.ref tl), some (.ref a), some (.ref D), some (.ref ml), v5, some (.ref sl), some (.ref wl), some (.str z), v9, v10, v11] :=
          fun HA k ps1 e hwA hsA hmA fA hk hle hpre => ⟨Wt, k :: St, ps1, by rw [hrun2]; dsimp only; rw [e], ⟨fun x hx => (by
              rcases List.mem_cons.mp hx with rfl | hx
              · exact hk
              · exact Nat.lt_of_lt_of_le (ri.there x hx) hpre.length_le), by omega, ri.pre.trans hpre, by rw [List.length_cons]; omega⟩,
            hwA.keep (fun xs e => by rw [upd_ne wls]; exact e) (PK.nat hsA), by rw [upd_same, List.reverse_cons, natL_snoc'], hmA.but hsA slm.symm (fun b oo e hb => by rw [upd_ne hb]; exact e), fun b oo e h => (by rw [upd_ne (sN _ _ e).1]; exact fA _ _ e h), rfl⟩
        cases hk : lookS L3 z with
        | some kk =>
          refine iteP rfl ?_
          have hm := lookS_mem hk
          have hwn : wordT n z = none := by
            rw [m6]
            exact l3_word ⟨n - 1, by omega⟩ _ hm
          have kk3 : kk < 3 := by
            have : ∀ q ∈ L3, q.2 < 3 := by decide +kernel
            exact this _ hm
          have hop : opd n L3 ps z = (kk, ps) := by unfold opd; rw [hwn, hk]; rfl
          refine ⟨_, rfl, .inl ⟨rfl, _, SqL.of hs9⟩, _, rfl, _, rfl, D, .int (kk : Nat), rfl, .inl ⟨_, .inr z, Rd.of hD9, rfl, by rw [valV_dS, hk]; rfl⟩, ?_⟩
          refine ⟨sl, _, _, rfl, rfl, hs9, by rw [natL_len, List.length_reverse]; omega, ?_⟩
          have := ri.pre.length_le
          exact fin H9 kk ps hop hw9 hs9 hm9 f9 (by have e3 : G3.length = 3 := rfl; omega) (by omega) (List.prefix_refl _)
        | none =>
          refine iteN (by decide) ?_
          have hws : (wordT n z).isSome = true := hgz.elim id fun e => by rw [hk] at e; cases e
          obtain ⟨v, hv⟩ := Option.isSome_iff_exists.mp hws
          have hnum : numT z = some v ∧ v ≤ 2 ^ n - 1 := by
            unfold wordT at hv
            cases hn : numT z with
            | none => rw [hn] at hv; cases hv
            | some v' =>
              rw [hn] at hv
              dsimp only at hv
              split at hv
              · cases hv; exact ⟨rfl, by assumption⟩
              · cases hv
          have hint : PySem.intText? z = some v := by
            have h := hnum.1
            unfold numT at h
            split at h
            · exact h
            · cases h
          have zl : z.length ≤ 640 := by
            unfold digOk at hdz
            rw [Bool.and_eq_true] at hdz
            have := of_decide_eq_true hdz.1
            omega
          have hop : opd n L3 ps z = mk ps (.num v) := by unfold opd; rw [hv]
          refine ⟨_, rfl, .inl ⟨rfl, _, SqL.of hs9⟩, _, rfl, _, rfl, z, v, rfl, hint, zl, by show 2 ≤ sizeLine; decide, fun u u0 => ?_⟩
          have s10 := same_new (o := .tup (Part.num v).vals) u0
          refine ⟨ml, u, ps, .num v, rfl, hm9.news s10, upd_same, by omega, fun HA hmA fA => ?_⟩
          have hmu := hm9.news s10
          have hsA := fA _ _ (s10 _ _ hs9) slm
          have hwA : WL HA wl Wt.reverse := (hw9.keep (H' := upd H9 u (.tup (Part.num v).vals)) (fun xs e => s10 _ _ e) (PK.new u0)).keep (fun xs e => fA _ _ e wlm) (PK.lmade hmu fA)
          have fA' : Fr ml H5 HA := fun b oo e h => fA _ _ (s10 _ _ (f9 _ _ e h)) h
          refine ⟨sl, _, _, rfl, rfl, hsA, by rw [natL_len, List.length_reverse]; omega, ?_⟩
          exact fin HA _ _ hop hwA hsA hmA fA' (mk_lt _ _) (mk_len _ _) (mk_pre _ _)
    rintro σ' H9 ⟨Wt0, St0, ps0, hred0, ri0, hw9, hs9, hm9, f9, rfl⟩
    obtain ⟨tsw9, hW9, ewl9, _⟩ := id hw9
    have w0 : Wt0.length ≤ 404 := by have := ri0.len; omega
    refine ⟨_, rfl, wl, _, rfl, SqL.of hW9, _, rfl, by rw [List.length_map, ewl9, List.length_reverse]; omega, by rw [List.length_map, ewl9, List.length_reverse]; omega, ?_⟩
    have elen : (tsw9.map V.ref).length = Wt0.length := by rw [List.length_map, ewl9, List.length_reverse]
    refine for_range (lo := 0) (n := (((tsw9.map V.ref).length : Nat) : Int).toNat) (fun m σ' HA => ∃ (Wt1 : List (Op × Nat)) (St1 : List Nat) (ps1 : List Part) (v9 v10 v11 : Option V), red n Wt1 St1 ps1 = rrun n L3 ([], [], G3) (t.toks.take (j + 1)) ∧ (Wt1.length + m ≤ Wt0.length ∨ red n Wt1 St1 ps1 = (Wt1, St1, ps1)) ∧ RI n t (j + 1) Wt1 St1 ps1 ∧ WL HA wl Wt1.reverse ∧ HA sl = some (.lst (natL St1.reverse)) ∧ LAt HA ml ps1 ∧ Fr ml H5 HA ∧ σ' = [some (.int (n : Nat)), some (.ref tl), some (.ref a), some (.ref D), some (.ref ml), v5, some (.ref sl), some (.ref wl), some (.str z), v9, v10, v11])
      ⟨Wt0, St0, ps0, v9, v10, v11, hred0, .inl (Nat.le_refl _), ri0, hw9, hs9, hm9, f9, rfl⟩ ?_ ?_
    · rintro m σ' HA hm ⟨Wt1, St1, ps1, w9, w10, w11, hred1, hst, ri1, hwA, hsA, hmA, fA, rfl⟩
      have p1l := ri1.len
      have s1l := ri1.stl
      rcases Wt1 with _ | ⟨⟨o, dp⟩, Wt2⟩
      · obtain ⟨tsA, hWA, ewA, _⟩ := id hwA
        have : tsA = [] := List.eq_nil_of_length_eq_zero ewA
        subst this
        refine ⟨_, rfl, wl, _, rfl, SqL.of hWA, _, _, rfl, rfl, _, rfl, iteN (by decide) (iteN (by decide) ?_)⟩
        exact ⟨[], St1, ps1, _, _, _, hred1, .inr rfl, ri1, hwA, hsA, hmA, fA, rfl⟩
      · rw [List.reverse_cons] at hwA
        obtain ⟨tsA, tA, hWA, ewA, hE, hpop⟩ := hwA.last
        rw [List.length_reverse] at ewA
        refine ⟨_, rfl, wl, _, rfl, SqL.of hWA, _, _, rfl, rfl, _, rfl, iteP (dT (by rw [List.length_append, List.length_singleton]; omega)) ?_⟩
        refine ⟨_, rfl, _, rfl, wl, _, rfl, SqL.of hWA, _, _, rfl, rfl, wl, _, _, _, rfl, rfl, SqL.of hWA, at_of (j := tsA.length) (by rw [List.length_append, List.length_map, List.length_singleton]; omega) (by rw [List.getElem?_append_right (by rw [List.length_map]; exact Nat.le_refl _), List.length_map, Nat.sub_self]; rfl), tA, _, _, _, rfl, rfl, SqL.of hE, rfl, _, _, rfl, rfl, _, rfl, sl, _, rfl, SqL.of hsA, rfl, _, rfl, ?_⟩
        rw [natL_len, List.length_reverse]
        by_cases hd2 : dp + 2 = St1.length
        · refine iteP (dT (by show V.int (((dp : Nat) : Int) + 2) = V.int ((St1.length : Nat) : Int); rw [show (((dp : Nat) : Int) + 2) = ((St1.length : Nat) : Int) from by omega])) ?_
          obtain ⟨y, x, r, rfl⟩ : ∃ y x r, St1 = y :: x :: r := by
            rcases St1 with _ | ⟨y, _ | ⟨x, r⟩⟩
            · simp at hd2
            · simp at hd2
            · exact ⟨y, x, r, rfl⟩
          have hred2 : red n Wt2 ((mApply n ps1 o x y).1 :: r) (mApply n ps1 o x y).2 = rrun n L3 ([], [], G3) (t.toks.take (j + 1)) := by
            rw [← hred1, red, if_pos (by simpa using hd2)]
          have hy := ri1.there y (by simp)
          have hx := ri1.there x (by simp)
          rw [List.reverse_cons, natL_snoc', List.reverse_cons, natL_snoc'] at hsA
          have pk1 := PK.nat (o := .lst (natL r.reverse ++ [.int (x : Nat)])) (S := r.reverse ++ [x] ++ [y]) (by rw [natL_snoc', natL_snoc']; exact hsA)
          refine ⟨_, rfl, Or.inl ⟨rfl, _, SqL.of hsA⟩, sl, _, .int (y : Nat), rfl, rfl, hsA, by simp, ?_⟩
          rw [List.dropLast_concat]
          have hsB : upd HA sl (.lst (natL r.reverse ++ [.int (x : Nat)])) sl = some (.lst (natL r.reverse ++ [.int (x : Nat)])) := upd_same
          have hwB := hwA.keep (H' := upd HA sl (.lst (natL r.reverse ++ [.int (x : Nat)]))) (fun xs e => by rw [upd_ne wls]; exact e) pk1
          have hmB := hmA.but (H' := upd HA sl (.lst (natL r.reverse ++ [.int (x : Nat)]))) hsA slm.symm (fun b oo e hb => by rw [upd_ne hb]; exact e)
          have fB : Fr ml H5 (upd HA sl (.lst (natL r.reverse ++ [.int (x : Nat)]))) := fun b oo e h => by rw [upd_ne (sN _ _ e).1]; exact fA _ _ e h
          generalize upd HA sl (.lst (natL r.reverse ++ [.int (x : Nat)])) = HB at hsB hwB hmB fB ⊢
          have pk2 := PK.nat (o := .lst (natL r.reverse)) (S := r.reverse ++ [x]) (by rw [natL_snoc']; exact hsB)
          refine ⟨_, rfl, Or.inl ⟨rfl, _, SqL.of hsB⟩, sl, _, .int (x : Nat), rfl, rfl, hsB, by simp, ?_⟩
          rw [List.dropLast_concat]
          have hsC : upd HB sl (.lst (natL r.reverse)) sl = some (.lst (natL r.reverse)) := upd_same
          have hwC := hwB.keep (H' := upd HB sl (.lst (natL r.reverse))) (fun xs e => by rw [upd_ne wls]; exact e) pk2
          have hmC := hmB.but (H' := upd HB sl (.lst (natL r.reverse))) hsB slm.symm (fun b oo e hb => by rw [upd_ne hb]; exact e)
          have fC : Fr ml H5 (upd HB sl (.lst (natL r.reverse))) := fun b oo e h => by rw [upd_ne (sN _ _ e).1]; exact fB _ _ e h
          generalize upd HB sl (.lst (natL r.reverse)) = HC at hsC hwC hmC fC ⊢
          obtain ⟨tsC, tC, hWC, ewC, hEC, hpopC⟩ := hwC.last
          refine ⟨_, rfl, .inl ⟨rfl, _, SqL.of hsC⟩, _, rfl, _, rfl, _, rfl, Or.inl ⟨rfl, _, SqL.of hWC⟩, wl, _, .ref tC, rfl, rfl, hWC, by simp, ?_⟩
          rw [List.dropLast_concat]
          have hWD : upd HC wl (.lst (tsC.map V.ref)) wl = some (.lst (tsC.map V.ref)) := upd_same
          have hWC' : HC wl = some (.lst ((tsC ++ [tC]).map V.ref)) := by rw [hWC, List.map_append]; rfl
          have pkD : PK HC (upd HC wl (.lst (tsC.map V.ref))) := PK.refs hWC'
          have hwD := hpopC _ hWD pkD
          have hED := pkD _ _ _ hEC
          have hsD : upd HC wl (.lst (tsC.map V.ref)) sl = some (.lst (natL r.reverse)) := by rw [upd_ne wls.symm]; exact hsC
          have hmD := hmC.but (H' := upd HC wl (.lst (tsC.map V.ref))) hWC wlm.symm (fun b oo e hb => by rw [upd_ne hb]; exact e)
          have fD : Fr ml H5 (upd HC wl (.lst (tsC.map V.ref))) := fun b oo e h => by rw [upd_ne (sN _ _ e).2]; exact fC _ _ e h
          generalize upd HC wl (.lst (tsC.map V.ref)) = HD at hwD hED hsD hmD fD ⊢
          refine ⟨tC, _, _, _, rfl, rfl, SqL.of hED, rfl, _, rfl, _, rfl, ?_⟩
          simp only [List.length_cons] at p1l s1l
          have A1 := mApply_len n ps1 o x y
          have A2 := mApply_pre n ps1 o x y
          have A3 := mApply_lt (w := n) (o := o) hx hy
          refine ⟨ml, ps1, n, o, x, y, rfl, hmD, by omega, by omega, hx, hy, fun HE hmE fE => ?_⟩
          have hsE := fE _ _ hsD slm
          have hwE := hwD.keep (H' := HE) (fun xs e => fE _ _ e wlm) (PK.lmade hmD fE)
          have fE' : Fr ml H5 HE := fun b oo e h => fE _ _ (fD _ _ e h) h
          refine ⟨sl, _, _, rfl, rfl, hsE, by rw [natL_len, List.length_reverse]; omega, ?_⟩
          refine ⟨Wt2, (mApply n ps1 o x y).1 :: r, (mApply n ps1 o x y).2, _, _, _, hred2, ?_, ⟨fun kk hk => ?_, by omega, ri1.pre.trans A2, by rw [List.length_cons]; omega⟩, hwE.keep (fun xs e => by rw [upd_ne wls]; exact e) (PK.nat hsE), by rw [upd_same, List.reverse_cons, natL_snoc'], hmE.but hsE slm.symm (fun b oo e hb => by rw [upd_ne hb]; exact e), fun b oo e h => (by rw [upd_ne (sN _ _ e).1]; exact fE' _ _ e h), rfl⟩
          · rcases hst with h | h
            · left; simp only [List.length_cons] at h; omega
            · exfalso
              rw [red, if_pos (by simpa using hd2)] at h
              have := congrArg (fun q => q.1.length) h
              have le : ∀ (W : List (Op × Nat)) (S : List Nat) (q : List Part), (red n W S q).1.length ≤ W.length := fun W => by
                induction W with
                | nil => intro S q; simp [red]
                | cons e W ih =>
                  intro S q
                  obtain ⟨o', d'⟩ := e
                  rcases S with _ | ⟨y', _ | ⟨x', r'⟩⟩
                  · exact Nat.le_refl _
                  · exact Nat.le_refl _
                  · rw [red]
                    split
                    · exact Nat.le_trans (ih _ _) (Nat.le_succ _)
                    · exact Nat.le_refl _
              have h2 := le Wt2 ((mApply n ps1 o x y).1 :: r) (mApply n ps1 o x y).2
              simp only [List.length_cons] at this
              omega
          · rcases List.mem_cons.mp hk with rfl | hk
            · exact A3
            · exact Nat.lt_of_lt_of_le (ri1.there kk (by simp [hk])) A2.length_le
        · refine iteN (dF (by intro e; have e : V.int (((dp : Nat) : Int) + 2) = V.int ((St1.length : Nat) : Int) := e; injection e with e; omega)) ?_
          refine ⟨(o, dp) :: Wt2, St1, ps1, _, _, _, hred1, .inr (red_stuck n o Wt2 St1 ps1 hd2), ri1, ?_, hsA, hmA, fA, rfl⟩
          rw [List.reverse_cons]; exact hwA
    rintro σ' HA ⟨Wt1, St1, ps1, w9, w10, w11, hred1, hst, ri1, hwA, hsA, hmA, fA, rfl⟩
    rw [Int.toNat_natCast, elen] at hst
    have stuck : red n Wt1 St1 ps1 = (Wt1, St1, ps1) := by
      rcases hst with h | h
      · have : Wt1 = [] := List.eq_nil_of_length_eq_zero (by omega)
        subst this; rw [red]
      · exact h
    exact ⟨Wt1, St1, ps1, _, _, _, _, by rw [← hred1, stuck], ri1, hwA, hsA, hmA, fA, rfl⟩
  rintro σ' H8 ⟨Wt, St, ps, v8, v9, v10, v11, hrun, ri, hw8, hs8, hm8, f8, rfl⟩
  rw [mlen, List.take_of_length_le (Nat.le_refl _), rrun_term t [] [] G3 hg, red] at hrun
  cases hrun
  -- read
  have htl8 := f8 _ _ htl5 tlm
  have hD8 := f8 _ _ hD5 mlD.symm
  have hp8 : PoolAt T.C H8 a l d n G3 := by
    obtain ⟨_, e, _⟩ := id hm5
    exact hp5.but e mll.symm f8
  refine ⟨_, rfl, _, rfl, tl, _, rfl, SqL.of htl8, fun u u0 => ?_⟩
  have s9 := same_new (o := .tup (t.toks.map V.str)) u0
  have hu : upd H8 u (.tup (t.toks.map V.str)) u = some (.tup (t.toks.map V.str)) := upd_same
  have hp9 := hp8.news s9
  have hD9 := s9 _ _ hD8
  have hs9 := s9 _ _ hs8
  have hm9 := hm8.news s9
  have sH9 : Same H (upd H8 u (.tup (t.toks.map V.str))) := fun b o e => s9 _ _ (f8 _ _ (s5 _ _ e) (ne_of_none e mlN))
  generalize upd H8 u (.tup (t.toks.map V.str)) = H9 at s9 hu hp9 hD9 hs9 hm9 sH9 ⊢
  refine ⟨_, rfl, a, l, d, D, n, G3, L3, .ref u, rfl, hp9, by omega, by decide, hD9, by decide, by decide +kernel, .inr (.inr ⟨u, t, rfl, .inr hu, hg, hdig, l400, fun HA r hpA r0 hr fA => ?_⟩)⟩
  have sl_l : sl ≠ l := by obtain ⟨_, e, _⟩ := id hp5.lst; exact (ne_of_none e sl0).symm
  have sl_d : sl ≠ d := (ne_of_none hp5.dic sl0).symm
  have hsA := fA _ _ hs9 sl_l sl_d
  have hmA : LAt HA ml (rdT n L3 t G3).2 := by
    obtain ⟨_, e, _⟩ := id hp9.lst
    exact hm9.but2 e hp9.dic mll fA
  have sHA : Same H HA := fun b o e => fA _ _ (sH9 _ _ e) (ne_of_none e hl) (ne_of_none e hd)
  refine ⟨_, rfl, sl, _, _, _, rfl, rfl, SqL.of hsA, rfl, by show 1 ≤ sizeLine; decide, fun v v0 => ?_⟩
  have sB' := same_new (o := .lst [.int ((rdT n L3 t G3).1 : Nat)]) v0
  have hrB := sB' _ _ hr
  have hvB : upd HA v (.lst [.int ((rdT n L3 t G3).1 : Nat)]) v = some (.lst [.int ((rdT n L3 t G3).1 : Nat)]) := upd_same
  have hpB := hpA.news sB'
  have hmB := hmA.news sB'
  have sHB := sHA.trans sB'
  generalize upd HA v (.lst [.int ((rdT n L3 t G3).1 : Nat)]) = HB at sB' hrB hvB hpB hmB sHB ⊢
  have lB := ri.len
  refine eq1 hrB hvB ⟨_, rfl, iteP (by decide) ?_⟩
  obtain ⟨dxB, l2, ys2, q1, q2, q3, q4, q5⟩ := listFacts T hpB (by omega)
  exact ⟨_, rfl, a, dxB, _, l2, ys2, rfl, q1, q2, q3, q4, fun g' HC hg' sC hgC => ⟨_, rfl, eqL (q5 g' HC sC hgC) (hmB.news sC) (k HC (sHB.trans sC))⟩⟩
end
end My

/-! LS -/
namespace My
open PySem L2
local macro_rules | `(tactic| walk_at "side") => `(tactic| first | with_reducible rfl | assumption | rfl | decide | omega | exact cpow1 (by omega) (by omega) | exact cdiv (by omega) (by omega) | exact two_pos _ | exact SqL.of (by assumption) | exact SqT.of (by assumption) | exact TyX.base (TyOf.int _) | exact TyX.base (TyOf.bl _) | exact TyX.base TyOf.non | exact scal_opt _ _ | exact k_ii | exact k_bi | exact k_ni | exact k_ib | exact k_bb | exact TyX.base (TyOf.lst (by assumption)) | exact k_ll | exact k_lt)
local macro_rules | `(tactic| walk_at "p") => `(tactic| repeat (first | refine And.intro (by walk_at "side") ?_ | apply Exists.intro | refine iteN (by assumption) ?_ | refine iteP (by assumption) ?_ | refine iteN (by decide) ?_ | refine iteP (by decide) ?_))

theorem sm_of {n u : Nat} {ps : List Part} (n6 : n ≤ 6) (u3 : u ≤ 3) (h : Rows n u false ps) : Sm ps := by
  have p64 : (2 : Int) ^ n ≤ 2 ^ 6 := pow_le' n6
  have e : (2 : Int) ^ 6 = 64 := by decide
  exact ⟨fun k v e1 => ⟨(h.ok.num _ _ e1).1, by have := (h.ok.num _ _ e1).2; omega⟩, fun k i e1 => ⟨(h.ok.get _ _ e1).1, by have := h.gets _ _ e1; omega⟩⟩
theorem gS_inj : ∀ i j : Fin 64, gS (i.val : Int) = gS (j.val : Int) → i = j := by decide +kernel
theorem gS_inj' {i j : Int} (i0 : 0 ≤ i) (i1 : i < 64) (j0 : 0 ≤ j) (j1 : j < 64) (h : gS i = gS j) : i = j := by
  obtain ⟨a, rfl⟩ := Int.eq_ofNat_of_zero_le i0
  obtain ⟨b, rfl⟩ := Int.eq_ofNat_of_zero_le j0
  have := gS_inj ⟨a, by omega⟩ ⟨b, by omega⟩ h
  have := congrArg Fin.val this
  simp at this
  rw [this]
theorem gS_ok : ∀ i : Fin 64, opOf (gS (i.val : Int)) = none ∧ digOk (gS (i.val : Int)) = true ∧ numT (gS (i.val : Int)) = none := by decide +kernel
theorem decS_ok : ∀ i : Fin 64, opOf (decS (i.val : Int)) = none ∧ digOk (decS (i.val : Int)) = true ∧ numT (decS (i.val : Int)) = some (i.val : Int) := by decide +kernel
theorem gS_ok' (n : Nat) {i : Int} (i0 : 0 ≤ i) (i1 : i < 64) : opOf (gS i) = none ∧ digOk (gS i) = true ∧ wordT n (gS i) = none := by
  obtain ⟨a, rfl⟩ := Int.eq_ofNat_of_zero_le i0
  obtain ⟨h1, h2, h3⟩ := gS_ok ⟨a, by omega⟩
  exact ⟨h1, h2, by unfold wordT; rw [h3]⟩
theorem decS_ok' {n : Nat} {v : Int} (i0 : 0 ≤ v) (i1 : v < 64) (hn : v < 2 ^ n) : opOf (decS v) = none ∧ digOk (decS v) = true ∧ wordT n (decS v) = some v := by
  obtain ⟨a, rfl⟩ := Int.eq_ofNat_of_zero_le i0
  obtain ⟨h1, h2, h3⟩ := decS_ok ⟨a, by omega⟩
  exact ⟨h1, h2, by unfold wordT; rw [h3]; dsimp only; rw [if_pos (by omega)]⟩
/-! the letters of a pool -/
def ltStep (st : Let × Nat) (p : Part) : Let × Nat := (match p with | .get g => st.1 ++ [(gS g, st.2)] | _ => st.1, st.2 + 1)
def ltAll (ps : List Part) : Let × Nat := ps.foldl ltStep ([], 0)
theorem ltAll_snoc (ps : List Part) (p : Part) : ltAll (ps ++ [p]) = ltStep (ltAll ps) p := by unfold ltAll; rw [List.foldl_append]; rfl
theorem ltAll_n (ps : List Part) : (ltAll ps).2 = ps.length := by
  refine snoc_ind (C := fun ps => (ltAll ps).2 = ps.length) rfl (fun l x h => ?_) ps
  rw [ltAll_snoc, List.length_append, List.length_singleton, ← h]; rfl
theorem ltAll_len (ps : List Part) : (ltAll ps).1.length ≤ ps.length := by
  refine snoc_ind (C := fun ps => (ltAll ps).1.length ≤ ps.length) (Nat.le_refl _) (fun l x h => ?_) ps
  rw [ltAll_snoc, List.length_append, List.length_singleton]
  cases x with
  | get g => show ((ltAll l).1 ++ [_]).length ≤ _; rw [List.length_append, List.length_singleton]; omega
  | num v => show (ltAll l).1.length ≤ _; omega
  | op o a b => show (ltAll l).1.length ≤ _; omega
theorem lt_mem (ps : List Part) : ∀ (z : Str) (k : Nat), (z, k) ∈ (ltAll ps).1 ↔ ∃ g, ps[k]? = some (.get g) ∧ z = gS g := by
  refine snoc_ind (C := fun ps => ∀ (z : Str) (k : Nat), (z, k) ∈ (ltAll ps).1 ↔ ∃ g, ps[k]? = some (.get g) ∧ z = gS g) (fun z k => ⟨(fun h => by cases h), fun ⟨g, e, _⟩ => by simp at e⟩) (fun l x ih z k => ?_) ps
  rw [ltAll_snoc]
  have old : (∃ g, l[k]? = some (.get g) ∧ z = gS g) → ∃ g, (l ++ [x])[k]? = some (.get g) ∧ z = gS g := fun ⟨g, e, h⟩ => ⟨g, by rw [List.getElem?_append_left (List.getElem?_eq_some_iff.mp e).1]; exact e, h⟩
  have back : (∃ g, (l ++ [x])[k]? = some (.get g) ∧ z = gS g) → (∃ g, l[k]? = some (.get g) ∧ z = gS g) ∨ (k = l.length ∧ ∃ g, x = .get g ∧ z = gS g) := fun ⟨g, e, h⟩ => by
    rcases snoc_at e with e1 | ⟨e2, e3⟩
    · exact .inl ⟨g, e1, h⟩
    · exact .inr ⟨e2, g, e3.symm, h⟩
  have same : (∀ g, x ≠ .get g) → ((z, k) ∈ (ltAll l).1 ↔ ∃ g, (l ++ [x])[k]? = some (.get g) ∧ z = gS g) := fun no => ⟨fun h => old ((ih z k).mp h), fun h => (back h).elim (fun h => (ih z k).mpr h) fun ⟨_, g, e, _⟩ => absurd e (no g)⟩
  cases x with
  | num v => exact same fun g e => by cases e
  | op o a b => exact same fun g e => by cases e
  | get g' =>
    show (z, k) ∈ (ltAll l).1 ++ [(gS g', (ltAll l).2)] ↔ _
    rw [ltAll_n, List.mem_append, List.mem_singleton]
    refine ⟨fun h => h.elim (fun h => old ((ih z k).mp h)) fun e => ?_, fun h => (back h).elim (fun h => .inl ((ih z k).mpr h)) fun ⟨e1, g, e2, e3⟩ => .inr ?_⟩
    · cases e
      exact ⟨g', by rw [List.getElem?_append_right (Nat.le_refl _), Nat.sub_self]; rfl, rfl⟩
    · cases e2; rw [e1, e3]
theorem lt_look {ps : List Part} (sm : Sm ps) (nd : ps.Nodup) {k : Nat} {g : Int} (e : ps[k]? = some (.get g)) : lookS (ltAll ps).1 (gS g) = some k := by
  have hm := (lt_mem ps (gS g) k).mpr ⟨g, e, rfl⟩
  cases h : lookS (ltAll ps).1 (gS g) with
  | none =>
    unfold lookS at h
    cases hf : (ltAll ps).1.find? fun q => decide (q.1 = gS g) with
    | none =>
      have := List.find?_eq_none.mp hf _ hm
      simp at this
    | some q => rw [hf] at h; cases h
  | some k' =>
    obtain ⟨g', e', hz⟩ := (lt_mem ps _ _).mp (lookS_mem h)
    have a := sm.get _ _ e
    have b := sm.get _ _ e'
    have : g = g' := gS_inj' a.1 a.2 b.1 b.2 hz
    subst this
    have h1 := List.getElem?_eq_some_iff.mp e
    have h2 := List.getElem?_eq_some_iff.mp e'
    have := (mk_have nd e).symm.trans (mk_have nd e')
    cases this; rfl
theorem lt_idx {ps : List Part} (sm : Sm ps) : idxG (ltAll ps).1 := fun ⟨z, k⟩ hq => by
  obtain ⟨g, e, hz⟩ := (lt_mem ps z k).mp hq
  obtain ⟨h0, h1⟩ := sm.get _ _ e
  obtain ⟨i, rfl⟩ := Int.eq_ofNat_of_zero_le h0
  exact ⟨⟨i, by omega⟩, hz⟩
theorem lv_of {n u : Nat} {ps : List Part} (n6 : n ≤ 6) (u3 : u ≤ 3) (h : Po n u ps) : Lv n (ltAll ps).1 ps := by
  have sm := sm_of n6 u3 h.rows
  refine ⟨fun k v e => ?_, fun k i e => ?_⟩
  · have a := sm.num _ _ e
    exact decS_ok' a.1 a.2 (h.rows.ok.num _ _ e).2
  · have a := sm.get _ _ e
    obtain ⟨h1, h2, h3⟩ := gS_ok' n a.1 a.2
    exact ⟨h1, h2, h3, lt_look sm h.si.nd e⟩
theorem tm_good3 {n u : Nat} {ps : List Part} (n6 : n ≤ 6) (u3 : u ≤ 3) (h : Po n u ps) : ∀ k, k < ps.length → (tm ps k).good n L3 := by
  have sm := sm_of n6 u3 h.rows
  have wf := h.rows.ok.wf
  intro k
  induction k using Nat.strongRecOn with
  | _ k ih =>
    intro hk
    obtain ⟨p, e⟩ : ∃ p, ps[k]? = some p := ⟨_, List.getElem?_eq_getElem hk⟩
    cases p with
    | num v =>
      have a := sm.num _ _ e
      obtain ⟨h1, h2, h3⟩ := decS_ok' a.1 a.2 (h.rows.ok.num _ _ e).2
      rw [tm_num e]
      exact ⟨h1, h2, .inl (by rw [h3]; rfl)⟩
    | get i =>
      have a := sm.get _ _ e
      obtain ⟨h1, h2, h3⟩ := gS_ok' n a.1 a.2
      have iu := h.rows.gets _ _ e
      rw [tm_get e]
      refine ⟨h1, h2, .inr ?_⟩
      have : i = 0 ∨ i = 1 ∨ i = 2 := by omega
      rcases this with rfl | rfl | rfl <;> decide +kernel
    | op o a b =>
      obtain ⟨ha, hb⟩ := wf k o a b e
      rw [tm_op wf e]
      exact ⟨ih a ha (by omega), ih b hb (by omega)⟩
section
variable {P : Program} {w : World} {K : PySem.W.Frag} {mg : Str → Option Value} {base : Heap}
def sp_law_written (T : Txt K mg) : Sp := fun vs H Q _ => ∃ (p q a l d Lp : Addr) (n u : Nat) (ps : List Part), vs = [.ref p, .ref a, .ref Lp, .int n] ∧ Dr H p q ∧ p ≠ q ∧ PoolAt T.C H a l d n ps ∧ LAt H Lp ps ∧ Po n u ps ∧ 1 ≤ n ∧ n ≤ 6 ∧ u ≤ 3 ∧ 1 ≤ ps.length ∧ ps.length ≤ 300 ∧ l ≠ p ∧ l ≠ q ∧ Lp ≠ p ∧ Lp ≠ l ∧
  ∀ H', Dr H' p q → Q (.bl true) H'
theorem sp_law_written_len {T : Txt K mg} {vs H Q E} (h : sp_law_written T vs H Q E) : vs.length = 4 := by obtain ⟨_, _, _, _, _, _, _, _, _, rfl, _⟩ := h; rfl
theorem ok_law_written (T : Txt K mg) : FnOk P w K mg base CX0 10 T.f_law_written T.fd_law_written ["_law_draws_here", "_law_pool", "_law_parts", "_law_width"] (sp_law_written T) := by
  have G_p_iter := ok_p_iter (P := P) (w := w) (base := base) T; have G_p_len := ok_p_len (P := P) (w := w) (base := base) T; have G_law_read := ok_law_read (P := P) (w := w) (base := base) T; have G_law_read_new := ok_law_read_new (P := P) (w := w) (base := base) T; have G_law_spoiled := ok_law_spoiled (P := P) (w := w) (base := base) T; have G_law_take := ok_law_take (P := P) (w := w) (base := base) T; have G_law_text_is := ok_law_text_is (P := P) (w := w) (base := base) T; have G_law_tokens := ok_law_tokens (P := P) (w := w) (base := base) T
  refine T.F_law_written.ok sc_law_written (fun vs H Q E h => sp_law_written_len h) (fun cdv A outer s H vs Q E hr h => ?_)
  obtain ⟨p, q, a, l, d, Lp, n, u, ps, rfl, dr, pq, hp, hL, po, n1, n6, u3, p1, p300, lp, lq, Lpp, Lpl, k⟩ := h
  have sz : sizeLine = 16777216 := sizeLine_eq
  have sm := sm_of n6 u3 po.rows
  have wf := po.rows.ok.wf
  refine ⟨_, (pss_cons (ps_set (i := 4) sc_law_written.nd rfl (Or.inl rfl) (pe_op op_sub (pe_op op_sub (pe_callB call_lenL (by rfl) T.n_len (by decide +kernel) (pa_cons (pv 2) pa_nil)) pe_int) (pe_call G_law_take (hr.mono (by decide)) rfl T.g_law_take T.F_law_take.kp T.b_law_take .nil pass0 (pa_cons (pv 0) (pa_cons (pe_callB (call_min2 rfl) (by rfl) T.n_min (by decide +kernel) (pa_cons pe_int (pa_cons (pe_callB call_lenL (by rfl) T.n_len (by decide +kernel) (pa_cons (pv 2) pa_nil)) pa_nil))) pa_nil)))))
       (pss_cons (ps_set (i := 5) sc_law_written.nd rfl (Or.inl rfl) (pe_call G_law_tokens (hr.mono (by decide)) rfl T.g_law_tokens T.F_law_tokens.kp T.b_law_tokens .nil pass0 (pa_cons (pv 2) (pa_cons (pv 4) pa_nil))))
       (pss_cons (ps_if (pt_not (pt_val (pe_call G_law_text_is (hr.mono (by decide)) rfl T.g_law_text_is T.F_law_text_is.kp T.b_law_text_is .nil pass0 (pa_cons (pv 1) (pa_cons (pv 4) (pa_cons (pv 5) pa_nil))))))
        (pss_one (ps_ret pe_bl))
        pss_nil)
       (pss_cons (ps_if (pt_cmpR op_isN (pv 5) pe_non (nomark _))
        (pss_one (ps_ret pe_bl))
        pss_nil)
       (pss_cons (ps_set (i := 6) sc_law_written.nd rfl (Or.inl rfl) pe_dnewK)
       (pss_cons (ps_for PassesOwn.never rfl (pi_range1 (by rfl) T.n_range (pa_cons (pe_callB call_lenL (by rfl) T.n_len (by decide +kernel) (pa_cons (pv 2) pa_nil)) pa_nil)) (pg_name (i := 7) sc_law_written.nd rfl (Or.inl rfl))
        (pss_one (ps_if (pt_cmpR op_eq (pe_ix ix_tup (pe_ix ix_list (pv 2) (pv 7) (fun _ _ => rfl)) pe_int (fun _ _ => rfl)) pe_str (nomark _))
        (pss_one (ps_dput (hu_of hr) (pv 6) (pe_op op_add_str pe_str (pe_callTy call_str_int (by rfl) T.n_str (by decide +kernel) (pa_cons (pe_ix ix_tup (pe_ix ix_list (pv 2) (pv 7) (fun _ _ => rfl)) pe_int (fun _ _ => rfl)) pa_nil))) (pv 7) rfl))
        pss_nil)))
       (pss_cons (ps_if (PW.pt (pw_or (pt_cmpR (op_neD hr.units) (pe_call G_law_read (hr.mono (by decide)) rfl T.g_law_read T.F_law_read.kp T.b_law_read .nil pass0 (pa_cons (pv 1) (pa_cons (pv 5) (pa_cons (pv 6) pa_nil)))) (pe_lst (pa_cons (pv 4) pa_nil)) (nomark _)) (pw_or1 (pt_cmpR (op_neD hr.units) (pe_callTy (call_listOwn2 T.m_p_iter.1 T.m_p_iter.2 T.m_p_len.1 (beq_iff_eq.mp T.m_p_len.2) G_p_iter T.b_p_iter G_p_len T.b_p_len rfl (hr.mono (by decide))) (by rfl) T.n_list (by decide +kernel) (pa_cons (pv 1) pa_nil)) (pv 2) (nomark _)))))
        (pss_one (ps_ret pe_bl))
        pss_nil)
       (pss_one (ps_ret (pe_and (pe_call G_law_spoiled hr rfl T.g_law_spoiled T.F_law_spoiled.kp T.b_law_spoiled .nil pass0 (pa_cons (pv 0) (pa_cons (pv 1) (pa_cons (pv 5) (pa_cons (pv 6) pa_nil))))) (pe_one (pe_call G_law_read_new hr rfl T.g_law_read_new T.F_law_read_new.kp T.b_law_read_new .nil pass0 (pa_cons (pv 3) (pa_cons (pv 5) pa_nil)))))))))))))), ?_⟩
  obtain ⟨xs, hX, ex, hit⟩ := hL.item
  have hpos : (0 : Int) < if ((xs.length : Nat) : Int) < 4 then ((xs.length : Nat) : Int) else 4 := by split <;> omega
  refine ⟨_, rfl, Lp, xs, rfl, SqL.of hX, _, _, rfl, rfl, _, rfl, _, rfl, Lp, xs, rfl, SqL.of hX, _, _, rfl, p, q, _, rfl, dr, pq, hpos, fun H1 y y0 y1 dr1 k1 => ?_⟩
  obtain ⟨kk, ek, hk⟩ : ∃ kk : Nat, ((xs.length : Nat) : Int) - 1 - y = (kk : Nat) ∧ kk < ps.length := ⟨xs.length - 1 - y.toNat, by split at y1 <;> omega, by omega⟩
  refine ⟨_, _, rfl, rfl, ?_⟩
  show gName 4 (V.int (((xs.length : Nat) : Int) - 1 - y)) _ _ _
  rw [ek]
  obtain ⟨_, _, hp_, _⟩ := id dr
  have hp1 := hp.but hp_ lp k1
  have hL1 := hL.but hp_ Lpp k1
  refine ⟨_, rfl, _, rfl, Lp, ps, kk, rfl, hL1, wf, sm, hk, by omega, fun h4 H2 tl s2 tl0 htl => ?_, fun h4 H2 s2 => ?_⟩
  rotate_left
  · refine ⟨_, rfl, _, rfl, _, rfl, a, l, d, n, ps, kk, .non, rfl, hp1.news s2, wf, sm, by omega, hk, .inr ⟨h4, rfl⟩, fun H3 s3 => ⟨_, rfl, iteN (by show ¬ (!true) = true; decide) ?_⟩⟩
    refine ⟨_, rfl, rfl, _, rfl, iteP (by decide) ?_⟩
    exact k H3 ((dr1.news s2).news s3)
  refine ⟨_, rfl, _, rfl, _, rfl, a, l, d, n, ps, kk, .ref tl, rfl, hp1.news s2, wf, sm, by omega, hk, .inl ⟨h4, tl, rfl, htl⟩, fun H3 s3' => ⟨_, rfl, iteN (by show ¬ (!true) = true; decide) ?_⟩⟩
  have s3 := s2.trans s3'
  have htl3 := s3' _ _ htl
  have hp3 := hp1.news s3
  have hL3 := hL1.news s3
  have dr3 := dr1.news s3
  have tlp : tl ≠ p := by obtain ⟨_, _, h1, _⟩ := id dr1; exact (ne_of_none h1 tl0).symm
  have tll : tl ≠ l := by obtain ⟨_, h1, _⟩ := id hp1.lst; exact (ne_of_none h1 tl0).symm
  have tld : tl ≠ d := (ne_of_none hp1.dic tl0).symm
  refine ⟨_, rfl, rfl, _, rfl, iteN (by simp) ?_⟩
  -- letters
  intro D hD
  have s4' := same_new (o := .dK []) hD
  have hD4 : upd H3 D (.dK []) D = some (.dK []) := upd_same
  have Dl : D ≠ l := by obtain ⟨_, h1, _⟩ := id hp3.lst; exact (ne_of_none h1 hD).symm
  have Dd : D ≠ d := (ne_of_none hp3.dic hD).symm
  obtain ⟨xs3, hX3, ex3, hit3⟩ := hL3.item
  refine ⟨_, rfl, Lp, _, rfl, SqL.of (s4' _ _ hX3), _, rfl, by omega, by omega, ?_⟩
  refine for_range (lo := 0) (n := ((xs3.length : Nat) : Int).toNat) (fun j σ' H5 => ∃ v7 : Option V, σ' = [some (.ref p), some (.ref a), some (.ref Lp), some (.int (n : Nat)), some (.int (kk : Nat)), some (.ref tl), some (.ref D), v7] ∧ Same H3 H5 ∧ H5 D = some (.dK (dS (ltAll (ps.take j)).1)))
    ⟨none, rfl, s4', hD4⟩ ?_ ?_
  · rintro j σ' H5 hj ⟨v7, rfl, s5, hD5⟩
    rw [Int.toNat_natCast] at hj
    rw [Int.zero_add]
    obtain ⟨pp, hpp⟩ : ∃ pp, ps[j]? = some pp := ⟨_, List.getElem?_eq_getElem (by omega)⟩
    obtain ⟨t, ht, hT⟩ := hit3 j pp hpp
    have hT5 := s5 _ _ hT
    have hX5 := s5 _ _ hX3
    have es : ltAll (ps.take (j + 1)) = ltStep (ltAll (ps.take j)) pp := by rw [take_snoc hpp, ltAll_snoc]
    have nn : (ltAll (ps.take j)).2 = j := by rw [ltAll_n, List.length_take]; omega
    refine ⟨_, rfl, _, rfl, Lp, _, _, _, rfl, rfl, SqL.of hX5, at_of rfl ht, t, _, _, _, rfl, rfl, SqT.of hT5, tag0 pp, rfl, _, rfl, ?_⟩
    cases pp with
    | num v => exact iteN num_get_f ⟨_, rfl, s5, by rw [es]; exact hD5⟩
    | op o x y => exact iteN (op_get_f o) ⟨_, rfl, s5, by rw [es]; exact hD5⟩
    | get g =>
      have hg := sm.get _ _ hpp
      refine iteP (dT rfl) ?_
      have ln := ltAll_len (ps.take j)
      rw [List.length_take] at ln
      refine ⟨_, rfl, _, rfl, _, rfl, _, rfl, Lp, _, _, _, rfl, rfl, SqL.of hX5, at_of rfl ht, t, _, _, _, rfl, rfl, SqT.of hT5, rfl, g, rfl, log_small hg.1 hg.2, "g", decS g, rfl, rfl, by rw [show ("g" : Str).length = 1 from by decide]; have := (small_dec hg.1 hg.2).1; omega, D, _, rfl, DPut.k (k := Sum.inr (gS g)) hD5 (by rw [dS_len]; omega), ?_⟩
      refine ⟨_, rfl, fun b o e => ?_, ?_⟩
      · rw [upd_ne (ne_of_none e hD)]; exact s5 _ _ e
      · have hnew : valV (dS (ltAll (ps.take j)).1) (Sum.inr (gS g)) = none := by
          rw [valV_dS]
          cases h : lookS (ltAll (ps.take j)).1 (gS g) with
          | none => rfl
          | some k' =>
            exfalso
            obtain ⟨g', e', hz⟩ := (lt_mem _ _ _).mp (lookS_mem h)
            have kl := (List.getElem?_eq_some_iff.mp e').1
            rw [List.length_take] at kl
            rw [List.getElem?_take, if_pos (by omega)] at e'
            have b := sm.get _ _ e'
            have : g = g' := gS_inj' hg.1 hg.2 b.1 b.2 hz
            subst this
            have := (mk_have po.si.nd hpp).symm.trans (mk_have po.si.nd e')
            have := congrArg Prod.fst this
            dsimp only at this
            omega
        rw [upd_same, putK_new _ hnew, es]
        show some (HO.dK (dS (ltAll (ps.take j)).1 ++ [_])) = some (.dK (dS ((ltAll (ps.take j)).1 ++ [(gS g, (ltAll (ps.take j)).2)])))
        rw [nn]
        unfold dS
        rw [List.map_append]; rfl
  rintro σ' H5 ⟨v7, rfl, s5, hD5⟩
  rw [Int.toNat_natCast, ex3, List.take_length] at hD5
  have lv := lv_of n6 u3 po
  have hgood := tm_good wf lv kk hk
  have hread := rd_own wf po.si lv kk hk
  have hgood3 := tm_good3 n6 u3 po kk hk
  have hix := lt_idx sm
  have hlen := ltAll_len ps
  have hLb : ∀ q ∈ (ltAll ps).1, q.2 < ps.length := fun ⟨z, i⟩ hq => by
    obtain ⟨g, e, _⟩ := (lt_mem ps z i).mp hq
    exact (List.getElem?_eq_some_iff.mp e).1
  generalize (ltAll ps).1 = L at *
  have hp5 := hp3.news s5
  have hL5 := hL3.news s5
  have dr5 := dr3.news s5
  have htl5 := s5 _ _ htl3
  refine ⟨_, rfl, _, rfl, _, rfl, a, l, d, D, n, ps, L, .ref tl, rfl, hp5, by omega, by omega, hD5, by omega, hLb, .inr (.inr ⟨tl, tm ps kk, rfl, .inl htl5, hgood.1, hgood.2, h4, ?_⟩)⟩
  rw [hread]
  intro H6 r hp6 r0 hr f6
  have hp6 : PoolAt T.C H6 a l d n ps := hp6
  have hL6 : LAt H6 Lp ps := by
    obtain ⟨_, e, _⟩ := id hp5.lst
    exact hL5.but2 e hp5.dic Lpl f6
  have dr6 : Dr H6 p q := dr5.keep (S := fun b => b = l ∨ b = d) (fun b o e hb => f6 b o e (fun z => hb (.inl z)) fun z => hb (.inr z)) (by
      obtain ⟨_, _, h1, _⟩ := id dr5
      rintro (z | z)
      · exact lp z.symm
      · exact ne_of h1 hp5.dic (by intro z; cases z) z) (by
      obtain ⟨_, _, _, h1, _⟩ := id dr5
      rintro (z | z)
      · exact lq z.symm
      · exact ne_of h1 hp5.dic (by intro z; cases z) z)
  have htl6 := f6 _ _ htl5 tll tld
  have hD6 := f6 _ _ hD5 Dl Dd
  refine ⟨_, rfl, by show 1 ≤ sizeLine; decide, fun v v0 => ?_⟩
  have s7 := same_new (o := .lst [.int (kk : Nat)]) v0
  have hv : upd H6 v (.lst [.int (kk : Nat)]) v = some (.lst [.int (kk : Nat)]) := upd_same
  have hr7 := s7 _ _ hr
  have hp7 := hp6.news s7
  have hL7 := hL6.news s7
  have dr7 := dr6.news s7
  have htl7 := s7 _ _ htl6
  have hD7 := s7 _ _ hD6
  generalize upd H6 v (.lst [.int (kk : Nat)]) = H7 at s7 hv hr7 hp7 hL7 dr7 htl7 hD7 ⊢
  refine neIL (ws := [((kk : Nat) : Int)]) (SqL.of hr7) (SqL.of hv) ⟨_, rfl, iteN (by decide) ?_⟩
  obtain ⟨dx7, l2, ys2, q1, q2, q3, q4, q5⟩ := listFacts T hp7 (by omega)
  refine ⟨_, rfl, a, dx7, _, l2, ys2, rfl, q1, q2, q3, q4, fun g' H8 hg' s8 hg8 => ⟨_, rfl, neL (q5 g' H8 s8 hg8) (hL7.news s8) ⟨_, rfl, iteN (by decide) ?_⟩⟩⟩
  refine ⟨_, rfl, _, rfl, _, rfl, _, rfl, p, q, a, l, d, D, tl, n, ps, L, tm ps kk, rfl, dr7.news s8, pq, hp7.news s8, n1, n6, p300, lp, s8 _ _ hD7, by omega, hLb, hix, hgood.1, hgood.2, h4, s8 _ _ htl7, tlp, fun H9 dr9 f9 => ⟨_, rfl, iteP (by decide) ?_⟩⟩
  refine ⟨_, rfl, _, rfl, tl, n, tm ps kk, rfl, n1, n6, f9 _ _ (s8 _ _ htl7) tlp, hgood3, hgood.2, h4, fun HA sA => ?_⟩
  exact k HA (dr9.news sA)
end
end My

/-! LT -/
namespace My
open PySem L2
local macro_rules | `(tactic| walk_at "side") => `(tactic| first | with_reducible rfl | assumption | rfl | decide | omega | exact cpow1 (by omega) (by omega) | exact cdiv (by omega) (by omega) | exact two_pos _ | exact SqL.of (by assumption) | exact SqT.of (by assumption) | exact TyX.base (TyOf.int _) | exact TyX.base (TyOf.bl _) | exact TyX.base TyOf.non | exact scal_opt _ _ | exact k_ii | exact k_bi | exact k_ni | exact k_ib | exact k_bb | exact TyX.base (TyOf.lst (by assumption)) | exact k_ll | exact k_lt)
local macro_rules | `(tactic| walk_at "p") => `(tactic| repeat (first | refine And.intro (by walk_at "side") ?_ | apply Exists.intro | refine iteN (by assumption) ?_ | refine iteP (by assumption) ?_ | refine iteN (by decide) ?_ | refine iteP (by decide) ?_))

def R11 : List Part := [.get 0, .op .add 0 0, .op .add 1 1, .op .add 2 2, .op .add 3 3, .op .add 4 4, .op .add 5 5, .op .add 6 6, .op .sub 7 6, .op .xor 8 3, .op .or 9 0]
theorem rk_op {len : Nat} {o : Op} {a b : Nat} (ha : a < len) (hb : b < len) : RowOk 4 1 false len (.op o a b) := ⟨⟨ha, hb⟩, trivial, fun g e => (by cases e), fun e => by cases e⟩
theorem r11_rows : Rows 4 1 false R11 := by
  have h0 : Rows 4 1 false [.get 0] := (rows_nil 4 1 false).snoc ⟨trivial, ⟨by decide, by decide⟩, fun g e => (by cases e; decide), fun e => by cases e⟩
  have h1 := h0.snoc (p := .op .add 0 0) (rk_op (by decide) (by decide))
  have h2 := h1.snoc (p := .op .add 1 1) (rk_op (by decide) (by decide))
  have h3 := h2.snoc (p := .op .add 2 2) (rk_op (by decide) (by decide))
  have h4 := h3.snoc (p := .op .add 3 3) (rk_op (by decide) (by decide))
  have h5 := h4.snoc (p := .op .add 4 4) (rk_op (by decide) (by decide))
  have h6 := h5.snoc (p := .op .add 5 5) (rk_op (by decide) (by decide))
  have h7 := h6.snoc (p := .op .add 6 6) (rk_op (by decide) (by decide))
  have h8 := h7.snoc (p := .op .sub 7 6) (rk_op (by decide) (by decide))
  have h9 := h8.snoc (p := .op .xor 8 3) (rk_op (by decide) (by decide))
  exact h9.snoc (p := .op .or 9 0) (rk_op (by decide) (by decide))
def R11p : List Part := [.get 0, .op .add 0 0, .op .add 1 1, .op .add 2 2, .op .add 3 3, .op .add 4 4, .op .add 5 5, .op .add 6 6, .op .sub 7 6, .op .xor 3 8, .op .or 0 9]
theorem r11_all : mAll 4 R11 = (R11p, [0, 1, 2, 3, 4, 5, 6, 7, 8, 9, 10]) := by decide +kernel
theorem r11p_rows : Rows 4 1 false R11p := by
  have h := (mAll_inv (n := 4) (by decide) r11_rows 11).rows
  rw [show R11.take 11 = R11 from rfl, r11_all] at h
  exact h
theorem r11_9 : (tkn R11p 9).length = 399 := by decide +kernel
theorem r11_10 : (tkn R11p 10).length = 401 := by decide +kernel
theorem r11_step : ∀ j : Fin 7, R11.take (1 + (j.val + 1)) = R11.take (1 + j.val) ++ [.op .add j.val j.val] := by decide +kernel
section
variable {P : Program} {w : World} {K : PySem.W.Frag} {mg : Str → Option Value} {base : Heap}
def sp_law_long_texts (T : Txt K mg) : Sp := fun vs H Q _ => vs = [] ∧ ∀ H', Same H H' → Q (.bl true) H'
theorem sp_law_long_texts_len {T : Txt K mg} {vs H Q E} (h : sp_law_long_texts T vs H Q E) : vs.length = 0 := by obtain ⟨rfl, _⟩ := h; rfl
theorem ok_law_long_texts (T : Txt K mg) : FnOk P w K mg base CX0 9 T.f_law_long_texts T.fd_law_long_texts [] (sp_law_long_texts T) := by
  have G_p_init := ok_p_init (P := P) (w := w) (base := base) T; have G_law_all_made := ok_law_all_made (P := P) (w := w) (base := base) T; have G_law_text_is := ok_law_text_is (P := P) (w := w) (base := base) T; have G_law_tokens := ok_law_tokens (P := P) (w := w) (base := base) T
  refine T.F_law_long_texts.ok sc_law_long_texts (fun vs H Q E h => sp_law_long_texts_len h) (fun cdv A outer s H vs Q E hr h => ?_)
  obtain ⟨rfl, k⟩ := h
  have sz : sizeLine = 16777216 := sizeLine_eq
  have s3 : (3 : Nat) ≤ sizeLine := by show 3 ≤ sizeLine; decide
  refine ⟨_, (pss_cons (ps_set (i := 0) sc_law_long_texts.nd rfl (Or.inl rfl) (pe_lst (pa_cons (pe_tup (pa_cons pe_str (pa_cons pe_int pa_nil))) pa_nil)))
       (pss_cons (ps_for PassesOwn.never rfl (pi_range1 (by rfl) T.n_range (pa_cons pe_int pa_nil)) (pg_name (i := 1) sc_law_long_texts.nd rfl (Or.inl rfl))
        (pss_one (ps_expr (pe_bm PySem.F.plainAttrs_list PySem.F.slot_list_append PySem.F.type_list_append mt_append (pv 0) (pa_cons (pe_tup (pa_cons pe_str (pa_cons (pv 1) (pa_cons (pv 1) pa_nil)))) pa_nil)))))
       (pss_cons (ps_expr (pe_bm PySem.F.plainAttrs_list PySem.F.slot_list_append PySem.F.type_list_append mt_append (pv 0) (pa_cons (pe_tup (pa_cons pe_str (pa_cons pe_int (pa_cons pe_int pa_nil)))) pa_nil)))
       (pss_cons (ps_expr (pe_bm PySem.F.plainAttrs_list PySem.F.slot_list_append PySem.F.type_list_append mt_append (pv 0) (pa_cons (pe_tup (pa_cons pe_str (pa_cons pe_int (pa_cons pe_int pa_nil)))) pa_nil)))
       (pss_cons (ps_expr (pe_bm PySem.F.plainAttrs_list PySem.F.slot_list_append PySem.F.type_list_append mt_append (pv 0) (pa_cons (pe_tup (pa_cons pe_str (pa_cons pe_int (pa_cons pe_int pa_nil)))) pa_nil)))
       (pss_cons (ps_set (i := 2) sc_law_long_texts.nd rfl (Or.inl rfl) (pe_make T.M_Pool G_p_init (hr.mono (by decide)) rfl T.g_Pool T.b_p_init .nil pass0 (pa_cons pe_int pa_nil)))
       (pss_cons (ps_set (i := 3) sc_law_long_texts.nd rfl (Or.inl rfl) (pe_lst pa_nil))
       (pss_cons (ps_if (pt_cmpR op_ne (pe_callB call_lenL (by rfl) T.n_len (by decide +kernel) (pa_cons (pe_call G_law_all_made (hr.mono (by decide)) rfl T.g_law_all_made T.F_law_all_made.kp T.b_law_all_made .nil pass0 (pa_cons (pv 2) (pa_cons (pv 3) (pa_cons pe_int (pa_cons (pv 0) pa_nil))))) pa_nil)) pe_int (nomark _))
        (pss_one (ps_ret pe_bl))
        pss_nil)
       (pss_cons (ps_set (i := 4) sc_law_long_texts.nd rfl (Or.inl rfl) (pe_call G_law_tokens (hr.mono (by decide)) rfl T.g_law_tokens T.F_law_tokens.kp T.b_law_tokens .nil pass0 (pa_cons (pv 3) (pa_cons pe_int pa_nil))))
       (pss_one (ps_ret (pe_and (pe_cmpR op_eq (pe_callB call_lenL (by rfl) T.n_len (by decide +kernel) (pa_cons (pv 4) pa_nil)) pe_int (nomark _)) (pe_and (pe_call G_law_text_is hr rfl T.g_law_text_is T.F_law_text_is.kp T.b_law_text_is .nil pass0 (pa_cons (pv 2) (pa_cons pe_int (pa_cons (pv 4) pa_nil)))) (pe_one (pe_call G_law_text_is hr rfl T.g_law_text_is T.F_law_text_is.kp T.b_law_text_is .nil pass0 (pa_cons (pv 2) (pa_cons pe_int (pa_cons pe_non pa_nil)))))))))))))))))), ?_⟩
  refine ⟨by show 2 ≤ sizeLine; decide, fun t0 t00 => ⟨by show 1 ≤ sizeLine; decide, fun R R0 => ?_⟩⟩
  have s1' := same_new (o := .tup (Part.get 0).vals) t00
  have ht0 : upd H t0 (.tup (Part.get 0).vals) t0 = some (.tup (Part.get 0).vals) := upd_same
  have RN : H R = none := s1'.free R0
  have s1 := s1'.trans (same_new (o := .lst [.ref t0]) R0)
  have tR : t0 ≠ R := fun z => by rw [← z] at R0; rw [show upd H t0 (.tup [V.str "get", .int 0]) t0 = some (.tup [V.str "get", .int 0]) from upd_same] at R0; cases R0
  have hR1 : LAt (upd (upd H t0 (.tup [V.str "get", .int 0])) R (.lst [.ref t0])) R (R11.take 1) := ⟨[t0], upd_same, rfl, fun i q e => by
    have e' : ([Part.get 0] : List Part)[i]? = some q := e
    have hi := (List.getElem?_eq_some_iff.mp e').1
    have : i = 0 := by simpa using hi
    subst this
    cases e'
    exact ⟨t0, rfl, by rw [upd_ne tR]; exact upd_same⟩⟩
  have s1 : Same H (upd (upd H t0 (.tup [V.str "get", .int 0])) R (.lst [.ref t0])) := s1
  generalize upd (upd H t0 (.tup [V.str "get", .int 0])) R (.lst [.ref t0]) = H1 at s1 hR1 ⊢
  -- one row more
  have app : ∀ (H2 : Hp) (rs : List Part) (r : Part) (t : Addr) (xs : List V), LAt H2 R rs → Same H H2 → H2 R = some (.lst xs) → H2 t = none → LAt (upd (upd H2 t (.tup r.vals)) R (.lst (xs ++ [.ref t]))) R (rs ++ [r]) ∧ Same H (upd (upd H2 t (.tup r.vals)) R (.lst (xs ++ [.ref t]))) ∧ upd H2 t (.tup r.vals) R = some (.lst xs) := by
    intro H2 rs r t xs hl s hX ht
    have sn := same_new (o := .tup r.vals) ht
    have tR : t ≠ R := (ne_of_none hX ht).symm
    refine ⟨(hl.news sn).push (sn _ _ hX) (fun b ys e => by rw [upd_ne (ne_of e (sn _ _ hX) (by intro z; cases z))]; exact e) upd_same (by rw [upd_ne tR]; exact upd_same), fun b o e => ?_, sn _ _ hX⟩
    rw [upd_ne (ne_of_none e RN)]; exact sn _ _ (s _ _ e)
  refine ⟨7, rfl, by decide, by decide, ?_⟩
  refine for_range (lo := 0) (n := (7 : Int).toNat) (fun j σ' H2 => ∃ v1 : Option V, σ' = [some (.ref R), v1, none, none, none] ∧ LAt H2 R (R11.take (1 + j)) ∧ Same H H2) ⟨none, rfl, hR1, s1⟩ ?_ ?_
  · rintro j σ' H2 hj ⟨v1, rfl, hl2, s2⟩
    have hj : j < 7 := hj
    rw [Int.zero_add]
    obtain ⟨xs, hX, ex, _⟩ := hl2.item
    have xl : xs.length < sizeLine := by rw [ex, List.length_take]; omega
    refine ⟨_, rfl, .inl ⟨rfl, _, SqL.of hX⟩, _, rfl, _, rfl, s3, fun t t0 => ?_⟩
    obtain ⟨a1, a2, a3⟩ := app H2 _ (.op .add j j) t xs hl2 s2 hX t0
    refine ⟨R, _, _, rfl, rfl, a3, xl, _, rfl, ?_, a2⟩
    have e9 : R11.take (1 + (j + 1)) = R11.take (1 + j) ++ [.op .add j j] := r11_step ⟨j, hj⟩
    rw [e9]; exact a1
  rintro σ' H2 ⟨v1, rfl, hl2, s2⟩
  have e8 : R11.take (1 + (7 : Int).toNat) = R11.take 8 := rfl
  rw [e8] at hl2
  obtain ⟨xs, hX, ex, _⟩ := hl2.item
  have ex : xs.length = 8 := ex
  refine ⟨_, rfl, .inl ⟨rfl, _, SqL.of hX⟩, s3, fun t t0 => ?_⟩
  obtain ⟨hl3, s3', hX'⟩ := app H2 _ (.op .sub 7 6) t xs hl2 s2 hX t0
  refine ⟨R, _, _, rfl, rfl, hX', by omega, ?_⟩
  have hl3 : LAt (upd (upd H2 t (.tup [V.str "sub", .int 7, .int 6])) R (.lst (xs ++ [.ref t]))) R (R11.take 9) := hl3
  have s3'' : Same H (upd (upd H2 t (.tup [V.str "sub", .int 7, .int 6])) R (.lst (xs ++ [.ref t]))) := s3'
  generalize upd (upd H2 t (.tup [V.str "sub", .int 7, .int 6])) R (.lst (xs ++ [.ref t])) = H3 at hl3 s3'' ⊢
  clear hX ex s3' hX' t0
  obtain ⟨xs3, hX, ex, _⟩ := hl3.item
  have ex : xs3.length = 9 := ex
  refine ⟨_, rfl, .inl ⟨rfl, _, SqL.of hX⟩, s3, fun t t0 => ?_⟩
  obtain ⟨hl4, s4', hX'⟩ := app H3 _ (.op .xor 8 3) t xs3 hl3 s3'' hX t0
  refine ⟨R, _, _, rfl, rfl, hX', by omega, ?_⟩
  have hl4 : LAt (upd (upd H3 t (.tup [V.str "xor", .int 8, .int 3])) R (.lst (xs3 ++ [.ref t]))) R (R11.take 10) := hl4
  have s4'' : Same H (upd (upd H3 t (.tup [V.str "xor", .int 8, .int 3])) R (.lst (xs3 ++ [.ref t]))) := s4'
  generalize upd (upd H3 t (.tup [V.str "xor", .int 8, .int 3])) R (.lst (xs3 ++ [.ref t])) = H4 at hl4 s4'' ⊢
  clear hX ex s4' hX' t0
  obtain ⟨xs4, hX, ex, _⟩ := hl4.item
  have ex : xs4.length = 10 := ex
  refine ⟨_, rfl, .inl ⟨rfl, _, SqL.of hX⟩, s3, fun t t0 => ?_⟩
  obtain ⟨hl5, s5', hX'⟩ := app H4 _ (.op .or 9 0) t xs4 hl4 s4'' hX t0
  refine ⟨R, _, _, rfl, rfl, hX', by omega, ?_⟩
  have hl5 : LAt (upd (upd H4 t (.tup [V.str "or", .int 9, .int 0])) R (.lst (xs4 ++ [.ref t]))) R R11 := hl5
  have s5'' : Same H (upd (upd H4 t (.tup [V.str "or", .int 9, .int 0])) R (.lst (xs4 ++ [.ref t]))) := s5'
  generalize upd (upd H4 t (.tup [V.str "or", .int 9, .int 0])) R (.lst (xs4 ++ [.ref t])) = H5 at hl5 s5'' ⊢
  clear hX ex s5' hX' t0
  -- the pool
  refine fun a dxa ha hdxa hne => ⟨a, dxa, 4, rfl, upd_same, by decide, by decide, fun H6 l d hl hd ld hp6 f6 => ⟨rfl, ?_⟩⟩
  obtain ⟨s56, hl, hd⟩ := mkFacts ha hdxa hl hd f6
  have hR6 := hl5.news s56
  have s6 := s5''.trans s56
  have Rl : R ≠ l := by obtain ⟨_, e, _⟩ := id hl5; exact ne_of_none e hl
  refine ⟨Nat.zero_le _, fun L L0 => ?_⟩
  have s7' := same_new (o := .lst []) L0
  have hL7 : LAt (upd H6 L (.lst [])) L [] := ⟨[], upd_same, rfl, fun i q e => by simp at e⟩
  have s7 := s6.trans s7'
  have Ll : L ≠ l := by obtain ⟨_, e, _⟩ := id hp6.lst; exact (ne_of_none e L0).symm
  have RL : R ≠ L := by obtain ⟨_, e, _⟩ := id hR6; exact ne_of_none e L0
  have hp7 := hp6.news s7'
  have hR7 := hR6.news s7'
  have LN : H L = none := s6.free L0
  have lN : H l = none := s5''.free hl
  have dN : H d = none := s5''.free hd
  generalize upd H6 L (.lst []) = H7 at s7 hL7 hp7 hR7 ⊢
  refine ⟨_, rfl, _, rfl, _, rfl, a, l, d, L, R, 4, 1, false, R11, rfl, hp7, hL7, hR7, r11_rows, by decide, by decide, by decide, Ll, RL, Rl, fun H8 tt tt0 hp8 hl8 htt f8 => ?_⟩
  rw [r11_all] at hp8 hl8 htt
  have hp8 : PoolAt T.C H8 a l d 4 R11p := hp8
  have hl8 : LAt H8 L R11p := hl8
  have htt : H8 tt = some (.lst (natL [0, 1, 2, 3, 4, 5, 6, 7, 8, 9, 10])) := htt
  refine ⟨tt, _, rfl, SqL.of htt, rfl, _, rfl, iteN (by decide) ?_⟩
  have s8 : Same H H8 := fun b o e => f8 _ _ (s7 _ _ e) (ne_of_none e LN) (ne_of_none e lN) (ne_of_none e dN)
  have wf := r11p_rows.ok.wf
  have sm := sm_of (by decide) (by decide) r11p_rows
  refine ⟨_, rfl, L, R11p, 9, rfl, hl8, wf, sm, by decide, by decide, fun _ H9 tl s9 tl0 htl => ?_, fun h => absurd h (by rw [r11_9]; decide)⟩
  refine ⟨_, rfl, tl, _, rfl, SqL.of htl, rfl, _, rfl, iteP (by rw [List.length_map, r11_9]; decide) ?_⟩
  refine ⟨_, rfl, _, rfl, a, l, d, 4, R11p, 9, .ref tl, rfl, hp8.news s9, wf, sm, by decide, by decide, .inl ⟨by rw [r11_9]; decide, tl, rfl, htl⟩, fun HA sA => ⟨_, rfl, iteP (by decide) ?_⟩⟩
  refine ⟨_, rfl, a, l, d, 4, R11p, 10, .non, rfl, (hp8.news s9).news sA, wf, sm, by decide, by decide, .inr ⟨by rw [r11_10]; decide, rfl⟩, fun HB sB => ?_⟩
  exact k HB (s8.trans (s9.trans (sA.trans sB)))
end
end My

/-! LU -/
namespace My
open PySem L2
local macro_rules | `(tactic| walk_at "side") => `(tactic| first | with_reducible rfl | assumption | rfl | decide | omega | exact cpow1 (by omega) (by omega) | exact cdiv (by omega) (by omega) | exact two_pos _ | exact SqL.of (by assumption) | exact SqT.of (by assumption) | exact TyX.base (TyOf.int _) | exact TyX.base (TyOf.bl _) | exact TyX.base TyOf.non | exact scal_opt _ _ | exact k_ii | exact k_bi | exact k_ni | exact k_ib | exact k_bb | exact TyX.base (TyOf.lst (by assumption)) | exact k_ll | exact k_lt)
local macro_rules | `(tactic| walk_at "p") => `(tactic| repeat (first | refine And.intro (by walk_at "side") ?_ | apply Exists.intro | refine iteN (by assumption) ?_ | refine iteP (by assumption) ?_ | refine iteN (by decide) ?_ | refine iteP (by decide) ?_))

def L4 : Let := [("add", 0), ("1", 0), ("07", 0), ("16", 0)]
def tO (z : Str) : Tm := .node .add (.leaf z) (.leaf "1")
theorem odd_facts : ∀ z ∈ (["07", "16"] : List Str), opOf z = none ∧ digOk z = true ∧ wordT 4 z = none ∧ lookS L4 z = some 0 := by decide +kernel
theorem one_facts : opOf "1" = none ∧ digOk "1" = true ∧ wordT 4 "1" = some 1 := by decide +kernel
theorem odd_good {z : Str} (h : z ∈ (["07", "16"] : List Str)) : (tO z).good 4 L4 := by
  obtain ⟨h1, h2, h3, h4⟩ := odd_facts z h
  obtain ⟨g1, g2, g3⟩ := one_facts
  exact ⟨⟨h1, h2, .inr (by rw [h4]; rfl)⟩, g1, g2, .inl (by rw [g3]; rfl)⟩
def O3 (g : Int) : List Part := [.get g, .num 1, .op .add 0 1]
theorem odd_read {z : Str} (h : z ∈ (["07", "16"] : List Str)) (g : Int) : rdT 4 L4 (tO z) [.get g] = (2, O3 g) := by
  obtain ⟨h1, h2, h3, h4⟩ := odd_facts z h
  obtain ⟨g1, g2, g3⟩ := one_facts
  have e1 : opd 4 L4 [.get g] z = (0, [.get g]) := by unfold opd; rw [h3, h4]; rfl
  have e2 : opd 4 L4 [.get g] "1" = (1, [.get g, .num 1]) := by
    unfold opd; rw [g3]
    show mk [.get g] (.num 1) = _
    unfold mk
    rw [if_neg (by simp)]; rfl
  show mApply 4 (opd 4 L4 (opd 4 L4 [.get g] z).2 "1").2 .add (opd 4 L4 [.get g] z).1 (opd 4 L4 (opd 4 L4 [.get g] z).2 "1").1 = _
  rw [e1]
  dsimp only
  rw [e2]
  rfl
theorem o3_rows {g : Int} (h0 : 0 ≤ g) (h1 : g < 64) : WF (O3 g) ∧ Sm (O3 g) := by
  have cs : ∀ (k : Nat) (p : Part), (O3 g)[k]? = some p → (k = 0 ∧ p = .get g) ∨ (k = 1 ∧ p = .num 1) ∨ (k = 2 ∧ p = .op .add 0 1) := fun k p e => by
    have hk := (List.getElem?_eq_some_iff.mp e).1
    have : k = 0 ∨ k = 1 ∨ k = 2 := by have : (O3 g).length = 3 := rfl; omega
    rcases this with rfl | rfl | rfl <;> cases e <;> simp
  refine ⟨fun k o a b e => ?_, ⟨fun k v e => ?_, fun k i e => ?_⟩⟩
  · rcases cs _ _ e with ⟨_, h⟩ | ⟨_, h⟩ | ⟨rfl, h⟩ <;> cases h
    exact ⟨by decide, by decide⟩
  · rcases cs _ _ e with ⟨_, h⟩ | ⟨_, h⟩ | ⟨rfl, h⟩ <;> cases h
    exact ⟨by decide, by decide⟩
  · rcases cs _ _ e with ⟨_, h⟩ | ⟨_, h⟩ | ⟨rfl, h⟩ <;> cases h
    exact ⟨h0, h1⟩
theorem o3_text {g : Int} (h0 : 0 ≤ g) (h1 : g < 64) : tkn (O3 g) 2 = (["add", gS g, "1"] : List Str) := by
  have wf := (o3_rows h0 h1).1
  unfold tkn
  rw [tm_op wf (k := 2) (o := .add) (a := 0) (b := 1) rfl, tm_get (k := 0) (i := g) rfl, tm_num (k := 1) (v := 1) rfl]
  have : decS 1 = "1" := by decide +kernel
  rw [this]; rfl
theorem join3 : ∀ i : Fin 64, Txt.join (" " : Str) (["add", gS (i.val : Int), "1"] : List Str) = ((("add " : Str) ++ gS (i.val : Int)) ++ (" 1" : Str)) ∧ (("add " : Str) ++ gS (i.val : Int)).length ≤ 8 := by decide +kernel
theorem drop1 {H : Hp} {g c : Addr} {ps : List Part} {ys : List V} (h : LAt H g ps) (hg : H g = some (.lst ys)) (hc : H c = some (.lst (ys.drop 1))) : LAt H c (ps.drop 1) := by
  obtain ⟨ts, e, hl, hT⟩ := h
  rw [hg] at e
  cases e
  refine ⟨ts.drop 1, by rw [hc, List.map_drop], by rw [List.length_drop, List.length_drop, hl], fun i p e => ?_⟩
  rw [List.getElem?_drop] at e
  obtain ⟨t, e1, e2⟩ := hT _ _ e
  exact ⟨t, by rw [List.getElem?_drop]; exact e1, e2⟩
theorem po_all {n u : Nat} (n1 : 1 ≤ n) {rs : List Part} (ro : Rows n u false rs) : ∀ j, j ≤ rs.length → Po n u (mAll n (rs.take j)).1
  | 0, _ => po_nil n u
  | j + 1, h => by
    obtain ⟨r, e⟩ : ∃ r, rs[j]? = some r := ⟨_, List.getElem?_eq_getElem (by omega)⟩
    have ih := po_all n1 ro j (by omega)
    have inv := mAll_inv n1 ro j
    have hjt : (rs.take j).length = j := by rw [List.length_take]; omega
    have rk : RowOk n u false (rs.take j).length r := by rw [hjt]; exact rowOk_at ro e
    have hin := inv.rowIn rk
    rw [take_snoc e, mAll_snoc]
    show Po n u (mPart n (mAll n (rs.take j)).1 r (mAll n (rs.take j)).2).2
    cases r with
    | num v => exact ih.num rk.2.1.1 rk.2.1.2
    | get g => exact ih.made ⟨trivial, rk.2.1, rk.2.2.1, fun e => by cases e⟩ fun _ _ _ e => by cases e
    | op o a b =>
      obtain ⟨ha, hb⟩ := hin.ahead o a b rfl
      exact ih.app n1 (hin.at ha) (hin.at hb)
theorem pu_all {n u : Nat} {rs : List Part} (n1 : 1 ≤ n) (n12 : n ≤ 12) (u3 : u ≤ 3) (ro : Rows n u false rs) (r1 : 2 ≤ rs.length) (r60 : rs.length < 60) : Pu n u rs (mAll n rs).1 (mAll n rs).2 := by
  have inv := mAll_inv n1 ro rs.length
  rw [List.take_length] at inv
  exact ⟨n1, n12, u3, ro, inv.rows, r1, r60, inv.plen, Nat.le_trans inv.len (by omega), inv.there, fun env he k hk => mAll_words n1 ro he hk⟩
theorem gNe {i : Nat} {v v' : V} {σ : L2.St} {H : Hp} {Q : L2.St → Hp → Prop} (e : v = v') (h : gName i v' σ H Q) : gName i v σ H Q := e ▸ h
section
variable {P : Program} {w : World} {K : PySem.W.Frag} {mg : Str → Option Value} {base : Heap}
def sp_law_odd_letters (T : Txt K mg) : Sp := fun vs H Q _ => ∃ (p q : Addr), vs = [.ref p] ∧ Dr H p q ∧ p ≠ q ∧ ∀ H', Q (.bl true) H'
theorem sp_law_odd_letters_len {T : Txt K mg} {vs H Q E} (h : sp_law_odd_letters T vs H Q E) : vs.length = 1 := by obtain ⟨_, _, rfl, _⟩ := h; rfl
theorem ok_law_odd_letters (T : Txt K mg) : FnOk P w K mg base CX0 8 T.f_law_odd_letters T.fd_law_odd_letters ["_law_draws_here"] (sp_law_odd_letters T) := by
  have G_p_iter := ok_p_iter (P := P) (w := w) (base := base) T; have G_p_len := ok_p_len (P := P) (w := w) (base := base) T; have G_p_part := ok_p_part (P := P) (w := w) (base := base) T; have G_p_unknown := ok_p_unknown (P := P) (w := w) (base := base) T; have G_p_init := ok_p_init (P := P) (w := w) (base := base) T; have G_law_take := ok_law_take (P := P) (w := w) (base := base) T; have G_part_of_words := ok_part_of_words (P := P) (w := w) (base := base) T; have G_part_text := ok_part_text (P := P) (w := w) (base := base) T
  refine T.F_law_odd_letters.ok sc_law_odd_letters (fun vs H Q E h => sp_law_odd_letters_len h) (fun cdv A outer s H vs Q E hr h => ?_)
  obtain ⟨p, q, rfl, dr, pq, k⟩ := h
  have sz : sizeLine = 16777216 := sizeLine_eq
  refine ⟨_, (pss_cons (ps_set (i := 1) sc_law_odd_letters.nd rfl (Or.inl rfl) (pe_make T.M_Pool G_p_init (hr.mono (by decide)) rfl T.g_Pool T.b_p_init .nil pass0 (pa_cons pe_int pa_nil)))
       (pss_cons (ps_set (i := 2) sc_law_odd_letters.nd rfl (Or.inl rfl) (pe_meth (pv 1) T.cl T.m_p_unknown G_p_unknown (hr.mono (by decide)) T.b_p_unknown .nil passL (pa_cons (pe_op op_add pe_int (pe_call G_law_take (hr.mono (by decide)) rfl T.g_law_take T.F_law_take.kp T.b_law_take .nil pass0 (pa_cons (pv 0) (pa_cons pe_int pa_nil)))) pa_nil)))
       (pss_cons (ps_set (i := 3) sc_law_odd_letters.nd rfl (Or.inl rfl) (pe_disp (pps_cons pe_str (pv 2) (pps_cons pe_str (pv 2) (pps_cons pe_str (pv 2) (pps_cons pe_str (pv 2) pps_nil)))) rfl rfl (by intro z; cases z) (by decide)))
       (pss_cons (ps_set (i := 4) sc_law_odd_letters.nd rfl (Or.inl rfl) (pe_call G_part_of_words hr rfl T.g_part_of_words T.F_part_of_words.kp T.b_part_of_words .nil passL (pa_cons (pv 1) (pa_cons (pe_lst (pa_cons pe_str (pa_cons (pe_ix ix_list (pe_lst (pa_cons pe_str (pa_cons pe_str pa_nil))) (pe_call G_law_take (hr.mono (by decide)) rfl T.g_law_take T.F_law_take.kp T.b_law_take .nil pass0 (pa_cons (pv 0) (pa_cons pe_int pa_nil))) (fun _ _ => rfl)) (pa_cons pe_str pa_nil)))) (pa_cons (pv 3) pa_nil)))))
       (pss_cons (ps_set (i := 5) sc_law_odd_letters.nd rfl (Or.inl rfl) (pe_op op_add_str pe_str (pe_callTy call_str_int (by rfl) T.n_str (by decide +kernel) (pa_cons (pe_ix ix_tup (pe_meth (pv 1) T.cl T.m_p_part G_p_part (hr.mono (by decide)) T.b_p_part .nil passL (pa_cons pe_int pa_nil)) pe_int (fun _ _ => rfl)) pa_nil))))
       (pss_one (ps_ret (pe_and (pe_cmpR op_eq (pv 4) pe_int (nomark _)) (pe_and (pe_cmpR (op_eqD hr.units) (pe_slice sl_list (pe_callTy (call_listOwn2 T.m_p_iter.1 T.m_p_iter.2 T.m_p_len.1 (beq_iff_eq.mp T.m_p_len.2) G_p_iter T.b_p_iter G_p_len T.b_p_len rfl (hr.mono (by decide))) (by rfl) T.n_list (by decide +kernel) (pa_cons (pv 1) pa_nil)) (po_some pe_int) po_none) (pe_lst (pa_cons (pe_tup (pa_cons pe_str (pa_cons pe_int pa_nil))) (pa_cons (pe_tup (pa_cons pe_str (pa_cons pe_int (pa_cons pe_int pa_nil)))) pa_nil))) (nomark _)) (pe_one (pe_cmpR op_eq (pe_call G_part_text hr rfl T.g_part_text T.F_part_text.kp T.b_part_text .nil passL (pa_cons (pv 1) (pa_cons pe_int pa_nil))) (pe_op op_add_str (pe_op op_add_str pe_str (pv 5)) pe_str) (nomark _)))))))))))), ?_⟩
  refine fun a dxa ha hdxa hne => ⟨a, dxa, 4, rfl, upd_same, by decide, by decide, fun H1 l d hl hd ld hp1 f1 => ⟨rfl, ?_⟩⟩
  obtain ⟨s1, hl, hd⟩ := mkFacts ha hdxa hl hd f1
  have dr1 := dr.news s1
  have lp : l ≠ p := by obtain ⟨_, _, h1, _⟩ := dr; exact (ne_of_none h1 hl).symm
  obtain ⟨dx1, ho1⟩ := id hp1.ob
  refine ⟨_, rfl, a, dx1, _, rfl, ho1, no_meth (by decide +kernel), _, rfl, p, q, _, rfl, dr1, pq, by decide, fun H2 v v0 v1 dr2 k2 => ⟨_, _, rfl, rfl, ?_⟩⟩
  have hp2 : PoolAt T.C H2 a l d 4 [] := by obtain ⟨_, _, h1, _⟩ := id dr1; exact hp1.but h1 lp k2
  obtain ⟨g, hg⟩ : ∃ g : Int, g = 10 + v := ⟨_, rfl⟩
  have g0 : 0 ≤ g := by omega
  have g1 : g < 64 := by omega
  refine ⟨a, l, d, 4, [], g, by rw [hg]; rfl, hp2, by decide, g0, by omega, ?_⟩
  have e0 : mk [] (.get g) = (0, [.get g]) := by unfold mk; rw [if_neg (by simp)]; rfl
  rw [e0]
  refine Made.x (fun H3 hp3 f3 => ?_) (by show 1 ≤ 4000; decide)
  have hp3 : PoolAt T.C H3 a l d 4 [.get g] := hp3
  obtain ⟨_, hll2, _⟩ := id hp2.lst
  have dr3 : Dr H3 p q := dr2.keep (S := fun b => b = l ∨ b = d) (fun b o e hb => f3 b o e (fun z => hb (.inl z)) fun z => hb (.inr z)) (by
      obtain ⟨_, _, h1, _⟩ := dr2
      rintro (z | z)
      · exact lp z.symm
      · exact ne_of h1 hp2.dic (by intro z; cases z) z) (by
      obtain ⟨_, _, _, h1, _⟩ := dr
      have lq : l ≠ q := (ne_of_none h1 hl).symm
      have dq : d ≠ q := (ne_of_none h1 hd).symm
      rintro (z | z)
      · exact lq z.symm
      · exact dq z.symm)
  -- letters
  intro D hD
  have sD := same_new (o := .dK []) hD
  refine ⟨_, rfl, _, rfl, _, rfl, _, rfl, upd_same, [(.inr "add", .int 0), (.inr "1", .int 0), (.inr "07", .int 0), (.inr "16", .int 0)], rfl, by decide, ?_⟩
  have eM : mergeK [] [((.inr "add" : Key), V.int 0), (.inr "1", .int 0), (.inr "07", .int 0), (.inr "16", .int 0)] = dS L4 := by decide +kernel
  rw [eM, upd_upd]
  have s4 := same_new (o := .dK (dS L4)) hD
  have hD4 : upd H3 D (.dK (dS L4)) D = some (.dK (dS L4)) := upd_same
  have hp4 := hp3.news s4
  have dr4 := dr3.news s4
  have Dp : D ≠ p := by obtain ⟨_, _, h1, _⟩ := id dr3; exact (ne_of_none h1 hD).symm
  generalize upd H3 D (.dK (dS L4)) = H4 at s4 hD4 hp4 dr4 ⊢
  -- told
  refine ⟨_, rfl, by show 2 ≤ sizeLine; decide, fun b b0 => ?_⟩
  have s5 := same_new (o := .lst [.str "07", .str "16"]) b0
  have hb : upd H4 b (.lst [.str "07", .str "16"]) b = some (.lst [.str "07", .str "16"]) := upd_same
  have hD5 := s5 _ _ hD4
  have hp5 := hp4.news s5
  have dr5 := dr4.news s5
  have bp : b ≠ p := by obtain ⟨_, _, h1, _⟩ := id dr4; exact (ne_of_none h1 b0).symm
  generalize upd H4 b (.lst [.str "07", .str "16"]) = H5 at s5 hb hD5 hp5 dr5 ⊢
  refine ⟨_, rfl, p, q, _, rfl, dr5, pq, by decide, fun H6 v' v'0 v'1 dr6 k6 => ?_⟩
  obtain ⟨z, hz, hzm⟩ : ∃ z : Str, atI [V.str "07", .str "16"] v' = some (.str z) ∧ z ∈ (["07", "16"] : List Str) := by
    have : v' = 0 ∨ v' = 1 := by omega
    rcases this with rfl | rfl
    · exact ⟨"07", rfl, by simp⟩
    · exact ⟨"16", rfl, by simp⟩
  have hp6 : PoolAt T.C H6 a l d 4 [.get g] := by obtain ⟨_, _, h1, _⟩ := id dr5; exact hp5.but h1 lp k6
  have hD6 := k6 _ _ hD5 Dp
  refine ⟨b, _, _, _, rfl, rfl, SqL.of (k6 _ _ hb bp), hz, by show 3 ≤ sizeLine; decide, fun wl wl0 => ?_⟩
  have s7 := same_new (o := .lst [.str "add", .str z, .str "1"]) wl0
  have hw : upd H6 wl (.lst [.str "add", .str z, .str "1"]) wl = some (.lst [.str "add", .str z, .str "1"]) := upd_same
  have hp7 := hp6.news s7
  have hD7 := s7 _ _ hD6
  generalize upd H6 wl (.lst [.str "add", .str z, .str "1"]) = H7 at s7 hw hp7 hD7 ⊢
  obtain ⟨h1, h2, h3, h4⟩ := odd_facts z hzm
  refine ⟨_, rfl, a, l, d, D, 4, [.get g], L4, .ref wl, rfl, hp7, by decide, by show 1 ≤ 3000; decide, hD7, by decide, by show ∀ q ∈ L4, q.2 < 1; decide +kernel, .inr (.inr ⟨wl, tO z, rfl, .inl hw, odd_good hzm, fun y hy => ?_, by show 3 ≤ 400; decide, ?_⟩)⟩
  · have : y = "add" ∨ y = z ∨ y = "1" := by
      have hy' : y ∈ (["add", z, "1"] : List Str) := hy
      simpa using hy'
    rcases this with rfl | rfl | rfl
    · decide +kernel
    · exact h2
    · exact one_facts.2.1
  rw [odd_read hzm]
  intro H8 hp8 f8
  have hp8 : PoolAt T.C H8 a l d 4 (O3 g) := hp8
  obtain ⟨dx8, ho8⟩ := id hp8.ob
  obtain ⟨wf, sm⟩ := o3_rows g0 g1
  refine ⟨_, rfl, a, dx8, _, rfl, ho8, no_meth (by decide +kernel), a, l, d, 4, O3 g, 0, .get g, rfl, hp8, rfl, fun t ht => ⟨t, _, 1, _, rfl, rfl, SqT.of ht, rfl, g, rfl, log_small g0 g1, "g", decS g, rfl, rfl, by rw [show ("g" : Str).length = 1 from by decide]; have := (small_dec g0 g1).1; omega, ?_⟩⟩
  -- compared
  refine ⟨_, rfl, rfl, _, rfl, iteP (by show decide (V.int ((2 : Nat) : Int) = V.int 2) = true; decide) ?_⟩
  obtain ⟨dx, l', ys, o1, o2, o3, o4, o5⟩ := listFacts T hp8 (by show 3 < 4000; decide)
  refine ⟨_, rfl, a, dx, _, l', ys, rfl, o1, o2, o3, o4, fun gg H9 hg s9 hg9 => ⟨1, rfl, gg, ys, rfl, SqL.of hg9, fun c c0 => ?_⟩⟩
  have hgl := o5 gg H9 s9 hg9
  have ecut : cutV ys (some 1) none = ys.drop 1 := by
    have yl : ys.length = 3 := by
      obtain ⟨ts, e, hl, _⟩ := id hgl
      rw [hg9] at e
      cases e
      rw [List.length_map, hl]; rfl
    unfold cutV
    rw [yl]
    show (ys.drop 1).take (3 - 1) = _
    rw [List.take_of_length_le (by rw [List.length_drop, yl]; decide)]
  rw [ecut]
  have s10 := same_new (o := .lst (ys.drop 1)) c0
  have hc : upd H9 c (.lst (ys.drop 1)) c = some (.lst (ys.drop 1)) := upd_same
  have hlc := drop1 (hgl.news s10) (s10 _ _ hg9) hc
  have hp10 := (hp8.news s9).news s10
  generalize upd H9 c (.lst (ys.drop 1)) = HA at s10 hc hlc hp10 ⊢
  refine ⟨by show 2 ≤ sizeLine; decide, fun t1 t10 => ⟨by show 3 ≤ sizeLine; decide, fun t2 t20 => ⟨by show 2 ≤ sizeLine; decide, fun l2 l20 => ?_⟩⟩⟩
  have sa := same_new (o := .tup (Part.num 1).vals) t10
  have h1t : upd HA t1 (.tup [.str "num", .int 1]) t1 = some (.tup (Part.num 1).vals) := upd_same
  have sa : Same HA (upd HA t1 (.tup [.str "num", .int 1])) := sa
  generalize upd HA t1 (.tup [.str "num", .int 1]) = HB at sa h1t t20 l20 ⊢
  have sb := same_new (o := .tup (Part.op .add 0 1).vals) t20
  have h2t : upd HB t2 (.tup [.str "add", .int 0, .int 1]) t2 = some (.tup (Part.op .add 0 1).vals) := upd_same
  have h1t' := sb _ _ h1t
  have sb : Same HB (upd HB t2 (.tup [.str "add", .int 0, .int 1])) := sb
  have h1t' : upd HB t2 (.tup [.str "add", .int 0, .int 1]) t1 = some (.tup (Part.num 1).vals) := h1t'
  generalize upd HB t2 (.tup [.str "add", .int 0, .int 1]) = HC at sb h2t h1t' l20 ⊢
  have sc := same_new (o := .lst [.ref t1, .ref t2]) l20
  have hl2 : LAt (upd HC l2 (.lst [.ref t1, .ref t2])) l2 [.num 1, .op .add 0 1] := ⟨[t1, t2], upd_same, rfl, fun i pp e => by
    have hi := (List.getElem?_eq_some_iff.mp e).1
    have : i = 0 ∨ i = 1 := by simp at hi; omega
    rcases this with rfl | rfl <;> cases e
    · exact ⟨t1, rfl, sc _ _ h1t'⟩
    · exact ⟨t2, rfl, sc _ _ h2t⟩⟩
  have sall := sa.trans (sb.trans sc)
  refine eqL (ps := [.num 1, .op .add 0 1]) (hlc.news sall) hl2 ⟨_, rfl, iteP (by decide) ?_⟩
  have et := o3_text g0 g1
  refine ⟨_, rfl, a, l, d, 4, O3 g, 2, rfl, hp10.news sall, wf, sm, by show 3 ≤ 4000; decide, by show 2 < 3; decide, fun _ HD sD => ?_, fun h => absurd h (by rw [et]; show ¬ 400 < 3; decide)⟩
  rw [et]
  obtain ⟨gn, rfl⟩ := Int.eq_ofNat_of_zero_le g0
  obtain ⟨j1, j2⟩ := join3 ⟨gn, by omega⟩
  have j2 : (("add " : Str) ++ gS ((gn : Nat) : Int)).length ≤ 8 := j2
  have sl := (small_dec g0 g1).2
  refine ⟨_, rfl, "add ", gS ((gn : Nat) : Int), rfl, rfl, by rw [show ("add " : Str).length = 4 from by decide]; omega, _, " 1", rfl, rfl, by rw [show (" 1" : Str).length = 2 from by decide]; omega, rfl, ?_⟩
  have ed : decide (V.str (Txt.join (" " : Str) (["add", gS ((gn : Nat) : Int), "1"] : List Str)) = V.str ((("add " : Str) ++ gS ((gn : Nat) : Int)) ++ (" 1" : Str))) = true := decide_eq_true (congrArg V.str j1)
  show Q (.bl (decide (V.str (Txt.join (" " : Str) (["add", gS ((gn : Nat) : Int), "1"] : List Str)) = V.str ((("add " : Str) ++ gS ((gn : Nat) : Int)) ++ (" 1" : Str))))) _
  rw [ed]
  exact k _
end
end My

/-! LV -/
namespace My
open PySem L2
local macro_rules | `(tactic| walk_at "side") => `(tactic| first | with_reducible rfl | assumption | rfl | decide | omega | exact cpow1 (by omega) (by omega) | exact cdiv (by omega) (by omega) | exact two_pos _ | exact SqL.of (by assumption) | exact SqT.of (by assumption) | exact TyX.base (TyOf.int _) | exact TyX.base (TyOf.bl _) | exact TyX.base TyOf.non | exact scal_opt _ _ | exact k_ii | exact k_bi | exact k_ni | exact k_ib | exact k_bb | exact TyX.base (TyOf.lst (by assumption)) | exact k_ll | exact k_lt)
local macro_rules | `(tactic| walk_at "p") => `(tactic| repeat (first | refine And.intro (by walk_at "side") ?_ | apply Exists.intro | refine iteN (by assumption) ?_ | refine iteP (by assumption) ?_ | refine iteN (by decide) ?_ | refine iteP (by decide) ?_))

section
variable {P : Program} {w : World} {K : PySem.W.Frag} {mg : Str → Option Value} {base : Heap}
def sp_law (T : Txt K mg) : Sp := fun vs H Q _ => ∃ (a : Addr) (xs : List Int), vs = [.ref a] ∧ SqL K H a (xs.map V.int) ∧ xs.length ≤ 63 ∧ ∀ H', Q (.bl true) H'
theorem sp_law_len {T : Txt K mg} {vs H Q E} (h : sp_law T vs H Q E) : vs.length = 1 := by obtain ⟨_, _, rfl, _⟩ := h; rfl
theorem ok_law (T : Txt K mg) : FnOk P w K mg base CX0 11 T.f_law T.fd_law ["_law_script"] (sp_law T) := by
  have G_p_init := ok_p_init (P := P) (w := w) (base := base) T; have G_law_all_made := ok_law_all_made (P := P) (w := w) (base := base) T; have G_law_chosen_carry := ok_law_chosen_carry (P := P) (w := w) (base := base) T; have G_law_draws := ok_law_draws (P := P) (w := w) (base := base) T; have G_law_lifted_well := ok_law_lifted_well (P := P) (w := w) (base := base) T; have G_law_long_texts := ok_law_long_texts (P := P) (w := w) (base := base) T; have G_law_odd_letters := ok_law_odd_letters (P := P) (w := w) (base := base) T; have G_law_take := ok_law_take (P := P) (w := w) (base := base) T; have G_law_term_rows := ok_law_term_rows (P := P) (w := w) (base := base) T; have G_law_word := ok_law_word (P := P) (w := w) (base := base) T; have G_law_written := ok_law_written (P := P) (w := w) (base := base) T
  refine T.F_law.ok sc_law (fun vs H Q E h => sp_law_len h) (fun cdv A outer s H vs Q E hr h => ?_)
  obtain ⟨s0, xs, rfl, hs, h63, k⟩ := h
  refine ⟨_, (pss_cons (ps_set (i := 1) sc_law.nd rfl (Or.inr rfl) (pe_call G_law_draws (hr.mono (by decide)) rfl T.g_law_draws T.F_law_draws.kp T.b_law_draws .nil pass0 (pa_cons (pv 0) pa_nil)))
       (pss_cons (ps_set (i := 2) sc_law.nd rfl (Or.inr rfl) (pe_op op_add pe_int (pe_call G_law_take (hr.mono (by decide)) rfl T.g_law_take T.F_law_take.kp T.b_law_take .nil pass0 (pa_cons (pv 1) (pa_cons pe_int pa_nil)))))
       (pss_cons (ps_set (i := 3) sc_law.nd rfl (Or.inl rfl) (pe_op op_add pe_int (pe_call G_law_take (hr.mono (by decide)) rfl T.g_law_take T.F_law_take.kp T.b_law_take .nil pass0 (pa_cons (pv 1) (pa_cons pe_int pa_nil)))))
       (pss_cons (ps_set (i := 4) sc_law.nd rfl (Or.inl rfl) (pe_call G_law_term_rows (hr.mono (by decide)) rfl T.g_law_term_rows T.F_law_term_rows.kp T.b_law_term_rows .nil pass0 (pa_cons (pv 1) (pa_cons (pv 3) (pa_cons (pv 2) (pa_cons (pe_op op_add pe_int (pe_call G_law_take (hr.mono (by decide)) rfl T.g_law_take T.F_law_take.kp T.b_law_take .nil pass0 (pa_cons (pv 1) (pa_cons pe_int pa_nil)))) (pa_cons pe_bl pa_nil)))))))
       (pss_cons (ps_set (i := 5) sc_law.nd rfl (Or.inl rfl) (pe_make T.M_Pool G_p_init (hr.mono (by decide)) rfl T.g_Pool T.b_p_init .nil pass0 (pa_cons (pv 2) pa_nil)))
       (pss_cons (ps_set (i := 6) sc_law.nd rfl (Or.inl rfl) (pe_lst pa_nil))
       (pss_cons (ps_set (i := 7) sc_law.nd rfl (Or.inl rfl) (pe_call G_law_all_made (hr.mono (by decide)) rfl T.g_law_all_made T.F_law_all_made.kp T.b_law_all_made .nil pass0 (pa_cons (pv 5) (pa_cons (pv 6) (pa_cons (pv 2) (pa_cons (pv 4) pa_nil))))))
       (pss_cons (ps_if (pt_cmpR op_ne (pe_callB call_lenL (by rfl) T.n_len (by decide +kernel) (pa_cons (pv 7) pa_nil)) (pe_callB call_lenL (by rfl) T.n_len (by decide +kernel) (pa_cons (pv 4) pa_nil)) (nomark _))
        (pss_one (ps_ret pe_bl))
        pss_nil)
       (pss_cons (ps_setLc (i := 8) (own := [("_law_i", 9)]) (g := gName 9) (tt := tYes) rfl sc_law.nd rfl rfl (sw_true rfl rfl rfl (by decide +kernel)) (pi_range1 (by rfl) T.n_range (pa_cons (pv 3) pa_nil)) (blkOk_by (N := ["_law_script", "_law_draws_here", "_law_width", "_law_unknowns", "_law_rows", "_law_pool", "_law_parts", "_law_places", "_law_words", "_law_i"]) (sc := defScope s_law) (by decide +kernel)) (fun _ _ _ _ _ => by exact pg_name (i := 9) sc_law.nd rfl (Or.inl rfl)) (fun _ _ _ _ _ => by exact pts_nil) (fun _ _ _ _ _ => by exact (pe_call G_law_word (hr.mono (by decide)) rfl T.g_law_word T.F_law_word.kp T.b_law_word .nil pass0 (pa_cons (pv 1) (pa_cons (pv 2) pa_nil)))))
       (pss_cons (ps_if (pt_not (pt_val (pe_call G_law_chosen_carry (hr.mono (by decide)) rfl T.g_law_chosen_carry T.F_law_chosen_carry.kp T.b_law_chosen_carry .nil pass0 (pa_cons (pv 1) (pa_cons (pv 5) (pa_cons (pv 6) (pa_cons (pv 4) (pa_cons (pv 7) (pa_cons (pv 8) (pa_cons (pv 2) pa_nil))))))))))
        (pss_one (ps_ret pe_bl))
        pss_nil)
       (pss_cons (ps_if (pt_not (pt_val (pe_call G_law_lifted_well (hr.mono (by decide)) rfl T.g_law_lifted_well T.F_law_lifted_well.kp T.b_law_lifted_well .nil pass0 (pa_cons (pv 1) (pa_cons (pv 4) (pa_cons (pv 8) (pa_cons (pv 2) pa_nil)))))))
        (pss_one (ps_ret pe_bl))
        pss_nil)
       (pss_cons (ps_if (PW.pt (pw_and (pt_cmpR op_eq (pe_call G_law_take (hr.mono (by decide)) rfl T.g_law_take T.F_law_take.kp T.b_law_take .nil pass0 (pa_cons (pv 1) (pa_cons pe_int pa_nil))) pe_int (nomark _)) (pw_and1 (pt_not (pt_val (pe_call0 G_law_long_texts (hr.mono (by decide)) rfl T.g_law_long_texts T.F_law_long_texts.kp T.b_law_long_texts .nil pass0))))))
        (pss_one (ps_ret pe_bl))
        pss_nil)
       (pss_one (ps_ret (pe_and (pe_call G_law_written hr rfl T.g_law_written T.F_law_written.kp T.b_law_written .nil pass0 (pa_cons (pv 1) (pa_cons (pv 5) (pa_cons (pv 6) (pa_cons (pv 2) pa_nil))))) (pe_one (pe_call G_law_odd_letters (hr.mono (by decide)) rfl T.g_law_odd_letters T.F_law_odd_letters.kp T.b_law_odd_letters .nil pass0 (pa_cons (pv 1) pa_nil)))))))))))))))))), ?_⟩
  have sz : sizeLine = 16777216 := sizeLine_eq
  refine ⟨_, rfl, s0, xs, rfl, hs, h63, fun H1 p q s1 hp0 hq0 hpq dr1 => ?_⟩
  -- width
  refine ⟨_, rfl, p, q, _, rfl, dr1, hpq, by decide, fun H2 v2 v20 v21 dr2 f2 => ⟨_, _, rfl, rfl, ?_⟩⟩
  obtain ⟨n, en, n1, n6⟩ : ∃ n : Nat, (1 : Int) + v2 = (n : Nat) ∧ 1 ≤ n ∧ n ≤ 6 := ⟨(1 + v2).toNat, by omega, by omega, by omega⟩
  refine gNe (v' := V.int (n : Nat)) (congrArg V.int en) ?_
  have n12 : n ≤ 12 := by omega
  -- unknowns
  refine ⟨_, rfl, p, q, _, rfl, dr2, hpq, by decide, fun H3 v3 v30 v31 dr3 f3 => ⟨_, _, rfl, rfl, ?_⟩⟩
  obtain ⟨u, eu, u1, u3⟩ : ∃ u : Nat, (1 : Int) + v3 = (u : Nat) ∧ 1 ≤ u ∧ u ≤ 3 := ⟨(1 + v3).toNat, by omega, by omega, by omega⟩
  refine gNe (v' := V.int (u : Nat)) (congrArg V.int eu) ?_
  -- rows
  refine ⟨_, rfl, _, rfl, _, rfl, _, rfl, p, q, _, rfl, dr3, hpq, by decide, fun H5 v5 v50 v51 dr5 f5 => ?_⟩
  obtain ⟨b5, rfl⟩ := Int.eq_ofNat_of_zero_le v50
  refine ⟨_, _, rfl, rfl, p, q, u, n, 2 + b5, false, rfl, dr5, hpq, n1, n12, u3, by omega, fun H6 R rs hR dr6 ra ro hlen => ?_⟩
  have Rp : R ≠ p := by obtain ⟨_, _, h1, _⟩ := dr5; exact (ne_of_none h1 hR).symm
  have Rq : R ≠ q := by obtain ⟨_, _, _, h1, _⟩ := dr5; exact (ne_of_none h1 hR).symm
  have lR7 := ra.at_
  clear ra
  have dr7 := dr6
  -- pool, parts
  refine ⟨_, rfl, fun a dxa ha hdxa hnea => ⟨a, dxa, n, rfl, upd_same, n1, n12, fun H8 l d hl hd _ hp8 f8 => ⟨rfl, ?_⟩⟩⟩
  obtain ⟨s8, hl, hd⟩ := mkFacts ha hdxa hl hd f8
  refine ⟨Nat.zero_le _, fun L hL => ?_⟩
  have s10 := same_new (o := .lst []) hL
  have lL : LAt (upd H8 L (.lst [])) L [] := ⟨[], upd_same, rfl, fun i q e => by simp at e⟩
  obtain ⟨xsR, hXR, exR, _⟩ := lR7.item
  obtain ⟨_, _, hp7, hq7, _⟩ := id dr7
  obtain ⟨_, hll8, _⟩ := id hp8.lst
  have hdd8 := hp8.dic
  have s710 := s8.trans s10
  have hL7 := s8.free hL
  have Ll : L ≠ l := (ne_of_none hll8 hL).symm
  have Rl : R ≠ l := ne_of_none hXR hl
  have RL : R ≠ L := ne_of_none hXR hL7
  have Rd : R ≠ d := ne_of_none hXR hd
  refine ⟨_, rfl, _, rfl, _, rfl, _, rfl, a, l, d, L, R, n, u, false, rs, rfl, hp8.news s10, lL, lR7.news s710, ro, n1, n12, by omega, Ll, RL, Rl, fun H11 Pl hPl hp11 hL11 hP11 f11 => ?_⟩
  have pu := pu_all n1 n12 u3 ro (by omega) (by omega)
  have po := po_all n1 ro rs.length (Nat.le_refl _)
  have ple := (mAll_inv n1 ro rs.length).len
  rw [List.take_length] at po ple
  generalize (mAll n rs).1 = ps at *
  generalize (mAll n rs).2 = pl at *
  have back : ∀ b o, H6 b = some o → H11 b = some o := fun b o e => f11 b o (s710 _ _ e) (ne_of_none e hL7) (ne_of_none e hl) (ne_of_none e hd)
  have hPl7 := s710.free hPl
  have ne : Ne p q l d L R Pl := ⟨hpq, (ne_of_none hp7 hl).symm, (ne_of_none hq7 hl).symm, (ne_of_none hq7 hL7).symm, (ne_of_none hp7 hL7).symm, Rp, (ne_of_none hp7 hPl7).symm, Ll, Rl, RL, (ne_of_none (s10 _ _ hll8) hPl).symm, (ne_of_none upd_same hPl).symm⟩
  have st : LS T.C H11 n rs ps pl p q a l d L R Pl := ⟨dr7.news back, hp11, hL11, lR7.news back, hP11⟩
  obtain ⟨xs11, hX11, ex11, _⟩ := st.rows.item
  -- as many places as rows
  refine ⟨_, rfl, Pl, _, rfl, SqL.of st.places, _, rfl, R, _, rfl, SqL.of hX11, rfl, _, rfl, iteN (neI (by rw [natL_len, pu.plen, ex11])) ?_⟩
  -- words
  refine ⟨_, rfl, u, rfl, by omega, by omega, fun W hW => ?_⟩
  have oW := st.off hW
  refine lc_range (lo := 0) (n := ((u : Nat) : Int).toNat) (fun j H1 => LS T.C H1 n rs ps pl p q a l d L R Pl ∧ Fr p H11 H1 ∧ ∃ ws : List Int, H1 W = some (.lst (intL ws)) ∧ ws.length = j ∧ ∀ x ∈ ws, 0 ≤ x ∧ x < 2 ^ n) ⟨st.news (same_new hW), .same (same_new hW), [], upd_same, rfl, by simp⟩ ?_ ?_
  · rintro j H12 hj ⟨st1, f1, ws, hw1, hwl, gws⟩
    rw [Int.toNat_natCast] at hj
    refine ⟨rfl, yesT (iteP rfl ?_)⟩
    refine ⟨_, rfl, _, rfl, p, q, n, rfl, st1.dr, ne.pq, n12, fun H13 v v0 v1 d2 f2 => ?_⟩
    have st2 := st1.take ne d2 f2
    have hw2 := f2 _ _ hw1 oW.o1
    refine ⟨_, hw2, by rw [intL_len]; omega, st2.upd oW hw2, fun b o e hb => ?_, ws ++ [v], by rw [upd_same, intL_snoc], by simp [hwl], fun x hx => ?_⟩
    · rw [upd_ne (ne_of_none e hW)]; exact f2 _ _ (f1 _ _ e hb) hb
    · rcases List.mem_append.mp hx with hx | hx
      · exact gws x hx
      · simp at hx; subst hx; exact ⟨v0, v1⟩
  rintro H12 ⟨st12, f12, ws, hw, hwl, gws⟩
  rw [Int.toNat_natCast] at hwl
  -- chosen, carry
  refine ⟨_, rfl, _, rfl, _, rfl, _, rfl, _, rfl, _, rfl, _, rfl, p, q, a, l, d, L, R, Pl, W, n, u, rs, ps, pl, ws, rfl, st12, ne, pu, po, hw, hwl, gws, oW.o1, oW.o3, oW.o4, by omega, fun H13 ps' hle po' pre hp13 hL13 dr13 f13 => ⟨_, rfl, iteN (by show ¬ (!true) = true; decide) ?_⟩⟩
  have hR13 : LAt H13 R rs := by
    obtain ⟨_, h1, _⟩ := id st12.pool.lst
    obtain ⟨_, h2, _⟩ := id st12.parts
    obtain ⟨_, _, h3, _⟩ := id st12.dr
    have h4 := st12.pool.dic
    exact st12.rows.keep (S := fun b => b = p ∨ b = L ∨ b = l ∨ b = d) (fun b o e hb => f13 b o e (fun z => hb (.inl z)) (fun z => hb (.inr (.inl z))) (fun z => hb (.inr (.inr (.inl z)))) fun z => hb (.inr (.inr (.inr z))))
      (by rintro (z | z | z | z)
          · exact Rp z
          · exact RL z
          · exact Rl z
          · exact Rd z)
      fun t xs e => by
        rintro (z | z | z | z)
        · exact ne_of e h3 (by intro z; cases z) z
        · exact ne_of e h2 (by intro z; cases z) z
        · exact ne_of e h1 (by intro z; cases z) z
        · exact ne_of e h4 (by intro z; cases z) z
  have hW13 := f13 _ _ hw oW.o1 oW.o4 oW.o3 oW.o7
  -- lifted
  refine ⟨_, rfl, _, rfl, _, rfl, _, rfl, p, q, R, W, n, u, rs, ws, rfl, dr13, hpq, hR13, Rp, ro, n1, by omega, by omega, by omega, hW13, hwl, gws, oW.o1, fun H14 dr14 f14 => ⟨_, rfl, iteN (by show ¬ (!true) = true; decide) ?_⟩⟩
  obtain ⟨_, _, hp13', _⟩ := id dr13
  have hp14 := hp13.but hp13' ne.lp f14
  have hL14 := hL13.but hp13' ne.Lp f14
  -- long texts
  refine ⟨_, rfl, p, q, _, rfl, dr14, hpq, by decide, fun H15 v15 v150 v151 dr15 f15 => ⟨rfl, _, rfl, ?_⟩⟩
  obtain ⟨_, _, hp14', _⟩ := id dr14
  have hp15 := hp14.but hp14' ne.lp f15
  have hL15 := hL14.but hp14' ne.Lp f15
  have p1 : 1 ≤ ps'.length := by
    have := pre.length_le
    have := pu.at (k := 0) (by omega)
    omega
  by_cases h15 : v15 = 7
  · refine iteP (dT (by rw [h15])) ⟨rfl, fun H16 s16 => ⟨_, rfl, iteN (by decide) ?_⟩⟩
    exact ⟨_, rfl, _, rfl, _, rfl, _, rfl, p, q, a, l, d, L, n, u, ps', rfl, dr15.news s16, hpq, hp15.news s16, hL15.news s16, po', n1, n6, u3, p1, by omega, ne.lp, ne.lq, ne.Lp, ne.Ll, fun H17 dr17 => ⟨_, rfl, iteP (by decide) ⟨_, rfl, p, q, rfl, dr17, hpq, fun H' => k H'⟩⟩⟩
  · refine iteN (dF (by intro e; injection e with e; exact h15 e)) (iteN (by decide) ?_)
    exact ⟨_, rfl, _, rfl, _, rfl, _, rfl, p, q, a, l, d, L, n, u, ps', rfl, dr15, hpq, hp15, hL15, po', n1, n6, u3, p1, by omega, ne.lp, ne.lq, ne.Lp, ne.Ll, fun H17 dr17 => ⟨_, rfl, iteP (by decide) ⟨_, rfl, p, q, rfl, dr17, hpq, fun H' => k H'⟩⟩⟩
end
end My

namespace My
open PySem L2
/-- an error of the class at S is what «except S» names -/
theorem exm_own {K : PySem.W.Frag} {S : Addr} (h1 : PySem.W.subIn K (.ref S) (.type "BaseException") = some true) (h2 : PySem.W.isClsIn K S = true) (h3 : PySem.W.typeIn K (.ref S) = some (.type "type")) (h4 : PySem.W.subIn K (.ref S) (.ref S) = some true) :
    PySem.W.exmOne K (.ref S) (.ref S) = some true := by
  have e1 : (PySem.W.subIn K (.ref S) (.type "BaseException") == some true) = true := by rw [h1] <;> rfl
  have e2 : ((PySem.W.clsIn K S).isSome && PySem.W.typeIn K (.ref S) == some (.type "type")) = true := by
    have h2' : (PySem.W.clsIn K S).isSome = true := h2
    rw [h2', h3] <;> rfl
  show (if (PySem.W.subIn K (.ref S) (.type "BaseException") == some true) = true then (if ((PySem.W.clsIn K S).isSome && PySem.W.typeIn K (.ref S) == some (.type "type")) = true then PySem.W.subIn K (.ref S) (.ref S) else none) else none) = some true
  rw [if_pos e1, if_pos e2]
  exact h4
theorem exm_two {K : PySem.W.Frag} {S R : Addr} {b : Bool} (h1 : PySem.W.subIn K (.ref S) (.type "BaseException") = some true) (h2 : PySem.W.isClsIn K S = true) (h3 : PySem.W.typeIn K (.ref S) = some (.type "type")) (h4 : PySem.W.subIn K (.ref R) (.ref S) = some b) :
    PySem.W.exmOne K (.ref R) (.ref S) = some b := by
  have e1 : (PySem.W.subIn K (.ref S) (.type "BaseException") == some true) = true := by rw [h1] <;> rfl
  have e2 : ((PySem.W.clsIn K S).isSome && PySem.W.typeIn K (.ref S) == some (.type "type")) = true := by
    have h2' : (PySem.W.clsIn K S).isSome = true := h2
    rw [h2', h3] <;> rfl
  show (if (PySem.W.subIn K (.ref S) (.type "BaseException") == some true) = true then (if ((PySem.W.clsIn K S).isSome && PySem.W.typeIn K (.ref S) == some (.type "type")) = true then PySem.W.subIn K (.ref R) (.ref S) else none) else none) = some b
  rw [if_pos e1, if_pos e2]
  exact h4
theorem oexE_of {K : PySem.W.Frag} {C : Addr} (q : PySem.W.excInitIn K C exB "Exception.__new__" = true) (hd : PySem.W.hasDictIn K C = true) (sa : PySem.W.findIn K (.ref C) "__setattr__" = some (some (.builtin "object.__setattr__"))) (ex : PySem.W.subIn K (.ref C) (.type "BaseException") = some true)
    (ty : PySem.W.typeIn K (.ref C) = some (.type "type")) (kp : PySem.W.keepIn K (.ref C) = true) : OexE K C := by
  refine ⟨?_, sa, ex, ty, kp⟩
  unfold PySem.W.excInitIn at q
  split at q
  · rename_i dd cd sl ho
    split at q
    · rename_i C' bm k0 k1 k2 k3 n k5 hm hs
      simp only [Bool.and_eq_true, beq_iff_eq, Bool.not_eq_true'] at q
      obtain ⟨⟨⟨rfl, rfl⟩, hdel⟩, ht⟩ := q
      have hD : cd.hasDict = true := by
        unfold PySem.W.hasDictIn PySem.W.clsIn at hd
        rw [ho] at hd
        exact hd
      obtain ⟨nm, bs, mro, ns, qn, hd', sn, sub, ab, col, del⟩ := cd
      dsimp only at hm hdel hD
      subst hm hdel hD
      have hsl : sl = #[k0, k1, k2, k3, some (.builtin "Exception.__new__"), k5] := by
        obtain ⟨l⟩ := sl
        simp only at hs
        rw [hs]
      subst hsl
      exact ⟨nm, qn, ns, bs, bm, sn, sub, ab, col, dd, k0, k1, k2, k3, k5, ho, ht⟩
    · cases q
  · cases q
theorem tup_kit {K : PySem.W.Frag} {a n : Nat} {od : Option Addr} {sl : Array (Option Value)} {its : Array Value} {xs : List V} (lk : K.lookup a = some ⟨.type "tuple", od, .seq its n, sl⟩) (z : its.size ≤ sizeLine) (v : Vals xs its.toList) : ∀ H, SqT K H a xs :=
  fun H => .inr ⟨_, its, n, lk, rfl, rfl, z, v⟩
theorem mk_TooMany_init {K : PySem.W.Frag} {f : Addr} {od an : Option Addr} {sl : Array (Option Value)} {oc kV dc pm cd ct : Value} (l : K.lookup f = some ⟨oc, od, .func (PySem.W.fnOf "__init__" "TooMany.__init__" (defArgs s_TooMany_init) (defBody s_TooMany_init) (defScope s_TooMany_init) .none kV dc pm an cd ct), sl⟩) (c : PySem.W.codeIn K cd "TooMany.__init__" = true) (k : PySem.W.keepIn K (.ref f) = true) :
    ∃ fd : FuncData, Fun K "__init__" "TooMany.__init__" s_TooMany_init f fd ∧ Binds K fd ["self", "name"] [] := ⟨_, fun_mk (st := s_TooMany_init) l c k, (fun_mk (st := s_TooMany_init) l c k).binds (ps := ["self", "name"]) fun _ _ _ _ _ _ us hl => match us, hl with | [_, _], _ => rfl⟩
theorem mk_BadNumber_init {K : PySem.W.Frag} {f : Addr} {od an : Option Addr} {sl : Array (Option Value)} {oc kV dc pm cd ct : Value} (l : K.lookup f = some ⟨oc, od, .func (PySem.W.fnOf "__init__" "BadNumber.__init__" (defArgs s_BadNumber_init) (defBody s_BadNumber_init) (defScope s_BadNumber_init) .none kV dc pm an cd ct), sl⟩) (c : PySem.W.codeIn K cd "BadNumber.__init__" = true) (k : PySem.W.keepIn K (.ref f) = true) :
    ∃ fd : FuncData, Fun K "__init__" "BadNumber.__init__" s_BadNumber_init f fd ∧ Binds K fd ["self", "name"] [] := ⟨_, fun_mk (st := s_BadNumber_init) l c k, (fun_mk (st := s_BadNumber_init) l c k).binds (ps := ["self", "name"]) fun _ _ _ _ _ _ us hl => match us, hl with | [_, _], _ => rfl⟩
theorem mk_BadWords_init {K : PySem.W.Frag} {f : Addr} {od an : Option Addr} {sl : Array (Option Value)} {oc kV dc pm cd ct : Value} (l : K.lookup f = some ⟨oc, od, .func (PySem.W.fnOf "__init__" "BadWords.__init__" (defArgs s_BadWords_init) (defBody s_BadWords_init) (defScope s_BadWords_init) .none kV dc pm an cd ct), sl⟩) (c : PySem.W.codeIn K cd "BadWords.__init__" = true) (k : PySem.W.keepIn K (.ref f) = true) :
    ∃ fd : FuncData, Fun K "__init__" "BadWords.__init__" s_BadWords_init f fd ∧ Binds K fd ["self", "at"] [] := ⟨_, fun_mk (st := s_BadWords_init) l c k, (fun_mk (st := s_BadWords_init) l c k).binds (ps := ["self", "at"]) fun _ _ _ _ _ _ us hl => match us, hl with | [_, _], _ => rfl⟩
theorem mk_BadOp_init {K : PySem.W.Frag} {f : Addr} {od an : Option Addr} {sl : Array (Option Value)} {oc kV dc pm cd ct : Value} (l : K.lookup f = some ⟨oc, od, .func (PySem.W.fnOf "__init__" "BadOp.__init__" (defArgs s_BadOp_init) (defBody s_BadOp_init) (defScope s_BadOp_init) .none kV dc pm an cd ct), sl⟩) (c : PySem.W.codeIn K cd "BadOp.__init__" = true) (k : PySem.W.keepIn K (.ref f) = true) :
    ∃ fd : FuncData, Fun K "__init__" "BadOp.__init__" s_BadOp_init f fd ∧ Binds K fd ["self", "op"] [] := ⟨_, fun_mk (st := s_BadOp_init) l c k, (fun_mk (st := s_BadOp_init) l c k).binds (ps := ["self", "op"]) fun _ _ _ _ _ _ us hl => match us, hl with | [_, _], _ => rfl⟩
theorem mk_op_word {K : PySem.W.Frag} {f : Addr} {od an : Option Addr} {sl : Array (Option Value)} {oc kV dc pm cd ct : Value} (l : K.lookup f = some ⟨oc, od, .func (PySem.W.fnOf "op_word" "op_word" (defArgs s_op_word) (defBody s_op_word) (defScope s_op_word) .none kV dc pm an cd ct), sl⟩) (c : PySem.W.codeIn K cd "op_word" = true) (k : PySem.W.keepIn K (.ref f) = true) :
    ∃ fd : FuncData, Fun K "op_word" "op_word" s_op_word f fd ∧ Binds K fd ["name", "one", "other", "width"] [] := ⟨_, fun_mk (st := s_op_word) l c k, (fun_mk (st := s_op_word) l c k).binds (ps := ["name", "one", "other", "width"]) fun _ _ _ _ _ _ us hl => match us, hl with | [_, _, _, _], _ => rfl⟩
theorem mk_shortened {K : PySem.W.Frag} {f : Addr} {od an : Option Addr} {sl : Array (Option Value)} {oc kV dc pm cd ct : Value} (l : K.lookup f = some ⟨oc, od, .func (PySem.W.fnOf "shortened" "shortened" (defArgs s_shortened) (defBody s_shortened) (defScope s_shortened) .none kV dc pm an cd ct), sl⟩) (c : PySem.W.codeIn K cd "shortened" = true) (k : PySem.W.keepIn K (.ref f) = true) :
    ∃ fd : FuncData, Fun K "shortened" "shortened" s_shortened f fd ∧ Binds K fd ["name", "first", "second", "equal", "most"] [] := ⟨_, fun_mk (st := s_shortened) l c k, (fun_mk (st := s_shortened) l c k).binds (ps := ["name", "first", "second", "equal", "most"]) fun _ _ _ _ _ _ us hl => match us, hl with | [_, _, _, _, _], _ => rfl⟩
theorem mk_shortened_and {K : PySem.W.Frag} {f : Addr} {od an : Option Addr} {sl : Array (Option Value)} {oc kV dc pm cd ct : Value} (l : K.lookup f = some ⟨oc, od, .func (PySem.W.fnOf "shortened_and" "shortened_and" (defArgs s_shortened_and) (defBody s_shortened_and) (defScope s_shortened_and) .none kV dc pm an cd ct), sl⟩) (c : PySem.W.codeIn K cd "shortened_and" = true) (k : PySem.W.keepIn K (.ref f) = true) :
    ∃ fd : FuncData, Fun K "shortened_and" "shortened_and" s_shortened_and f fd ∧ Binds K fd ["first", "second", "equal", "most"] [] := ⟨_, fun_mk (st := s_shortened_and) l c k, (fun_mk (st := s_shortened_and) l c k).binds (ps := ["first", "second", "equal", "most"]) fun _ _ _ _ _ _ us hl => match us, hl with | [_, _, _, _], _ => rfl⟩
theorem mk_shortened_twice {K : PySem.W.Frag} {f : Addr} {od an : Option Addr} {sl : Array (Option Value)} {oc kV dc pm cd ct : Value} (l : K.lookup f = some ⟨oc, od, .func (PySem.W.fnOf "shortened_twice" "shortened_twice" (defArgs s_shortened_twice) (defBody s_shortened_twice) (defScope s_shortened_twice) .none kV dc pm an cd ct), sl⟩) (c : PySem.W.codeIn K cd "shortened_twice" = true) (k : PySem.W.keepIn K (.ref f) = true) :
    ∃ fd : FuncData, Fun K "shortened_twice" "shortened_twice" s_shortened_twice f fd ∧ Binds K fd ["name"] [] := ⟨_, fun_mk (st := s_shortened_twice) l c k, (fun_mk (st := s_shortened_twice) l c k).binds (ps := ["name"]) fun _ _ _ _ _ _ us hl => match us, hl with | [_], _ => rfl⟩
theorem mk_is_int {K : PySem.W.Frag} {f : Addr} {od an : Option Addr} {sl : Array (Option Value)} {oc kV dc pm cd ct : Value} (l : K.lookup f = some ⟨oc, od, .func (PySem.W.fnOf "is_int" "is_int" (defArgs s_is_int) (defBody s_is_int) (defScope s_is_int) .none kV dc pm an cd ct), sl⟩) (c : PySem.W.codeIn K cd "is_int" = true) (k : PySem.W.keepIn K (.ref f) = true) :
    ∃ fd : FuncData, Fun K "is_int" "is_int" s_is_int f fd ∧ Binds K fd ["value"] [] := ⟨_, fun_mk (st := s_is_int) l c k, (fun_mk (st := s_is_int) l c k).binds (ps := ["value"]) fun _ _ _ _ _ _ us hl => match us, hl with | [_], _ => rfl⟩
theorem mk_is_row {K : PySem.W.Frag} {f : Addr} {od an : Option Addr} {sl : Array (Option Value)} {oc kV dc pm cd ct : Value} (l : K.lookup f = some ⟨oc, od, .func (PySem.W.fnOf "is_row" "is_row" (defArgs s_is_row) (defBody s_is_row) (defScope s_is_row) .none kV dc pm an cd ct), sl⟩) (c : PySem.W.codeIn K cd "is_row" = true) (k : PySem.W.keepIn K (.ref f) = true) :
    ∃ fd : FuncData, Fun K "is_row" "is_row" s_is_row f fd ∧ Binds K fd ["value"] [] := ⟨_, fun_mk (st := s_is_row) l c k, (fun_mk (st := s_is_row) l c k).binds (ps := ["value"]) fun _ _ _ _ _ _ us hl => match us, hl with | [_], _ => rfl⟩
theorem mk_check_int {K : PySem.W.Frag} {f : Addr} {od an : Option Addr} {sl : Array (Option Value)} {oc kV dc pm cd ct : Value} (l : K.lookup f = some ⟨oc, od, .func (PySem.W.fnOf "check_int" "check_int" (defArgs s_check_int) (defBody s_check_int) (defScope s_check_int) .none kV dc pm an cd ct), sl⟩) (c : PySem.W.codeIn K cd "check_int" = true) (k : PySem.W.keepIn K (.ref f) = true) :
    ∃ fd : FuncData, Fun K "check_int" "check_int" s_check_int f fd ∧ Binds K fd ["value", "low", "high", "name"] [] := ⟨_, fun_mk (st := s_check_int) l c k, (fun_mk (st := s_check_int) l c k).binds (ps := ["value", "low", "high", "name"]) fun _ _ _ _ _ _ us hl => match us, hl with | [_, _, _, _], _ => rfl⟩
theorem mk_ones {K : PySem.W.Frag} {f : Addr} {od an : Option Addr} {sl : Array (Option Value)} {oc kV dc pm cd ct : Value} (l : K.lookup f = some ⟨oc, od, .func (PySem.W.fnOf "ones" "ones" (defArgs s_ones) (defBody s_ones) (defScope s_ones) .none kV dc pm an cd ct), sl⟩) (c : PySem.W.codeIn K cd "ones" = true) (k : PySem.W.keepIn K (.ref f) = true) :
    ∃ fd : FuncData, Fun K "ones" "ones" s_ones f fd ∧ Binds K fd ["width"] [] := ⟨_, fun_mk (st := s_ones) l c k, (fun_mk (st := s_ones) l c k).binds (ps := ["width"]) fun _ _ _ _ _ _ us hl => match us, hl with | [_], _ => rfl⟩
theorem mk_lifted {K : PySem.W.Frag} {f : Addr} {od an : Option Addr} {sl : Array (Option Value)} {oc kV dc pm cd ct : Value} (l : K.lookup f = some ⟨oc, od, .func (PySem.W.fnOf "lifted" "lifted" (defArgs s_lifted) (defBody s_lifted) (defScope s_lifted) .none kV dc pm an cd ct), sl⟩) (c : PySem.W.codeIn K cd "lifted" = true) (k : PySem.W.keepIn K (.ref f) = true) :
    ∃ fd : FuncData, Fun K "lifted" "lifted" s_lifted f fd ∧ Binds K fd ["pool", "name", "one", "other", "width"] [] := ⟨_, fun_mk (st := s_lifted) l c k, (fun_mk (st := s_lifted) l c k).binds (ps := ["pool", "name", "one", "other", "width"]) fun _ _ _ _ _ _ us hl => match us, hl with | [_, _, _, _, _], _ => rfl⟩
theorem mk_p_init {K : PySem.W.Frag} {f : Addr} {od an : Option Addr} {sl : Array (Option Value)} {oc kV dc pm cd ct : Value} (l : K.lookup f = some ⟨oc, od, .func (PySem.W.fnOf "__init__" "Pool.__init__" (defArgs s_p_init) (defBody s_p_init) (defScope s_p_init) .none kV dc pm an cd ct), sl⟩) (c : PySem.W.codeIn K cd "Pool.__init__" = true) (k : PySem.W.keepIn K (.ref f) = true) :
    ∃ fd : FuncData, Fun K "__init__" "Pool.__init__" s_p_init f fd ∧ Binds K fd ["self", "width"] [] := ⟨_, fun_mk (st := s_p_init) l c k, (fun_mk (st := s_p_init) l c k).binds (ps := ["self", "width"]) fun _ _ _ _ _ _ us hl => match us, hl with | [_, _], _ => rfl⟩
theorem mk_p_len {K : PySem.W.Frag} {f : Addr} {od an : Option Addr} {sl : Array (Option Value)} {oc kV dc pm cd ct : Value} (l : K.lookup f = some ⟨oc, od, .func (PySem.W.fnOf "__len__" "Pool.__len__" (defArgs s_p_len) (defBody s_p_len) (defScope s_p_len) .none kV dc pm an cd ct), sl⟩) (c : PySem.W.codeIn K cd "Pool.__len__" = true) (k : PySem.W.keepIn K (.ref f) = true) :
    ∃ fd : FuncData, Fun K "__len__" "Pool.__len__" s_p_len f fd ∧ Binds K fd ["self"] [] := ⟨_, fun_mk (st := s_p_len) l c k, (fun_mk (st := s_p_len) l c k).binds (ps := ["self"]) fun _ _ _ _ _ _ us hl => match us, hl with | [_], _ => rfl⟩
theorem mk_p_iter {K : PySem.W.Frag} {f : Addr} {od an : Option Addr} {sl : Array (Option Value)} {oc kV dc pm cd ct : Value} (l : K.lookup f = some ⟨oc, od, .func (PySem.W.fnOf "__iter__" "Pool.__iter__" (defArgs s_p_iter) (defBody s_p_iter) (defScope s_p_iter) .none kV dc pm an cd ct), sl⟩) (c : PySem.W.codeIn K cd "Pool.__iter__" = true) (k : PySem.W.keepIn K (.ref f) = true) :
    ∃ fd : FuncData, Fun K "__iter__" "Pool.__iter__" s_p_iter f fd ∧ Binds K fd ["self"] [] := ⟨_, fun_mk (st := s_p_iter) l c k, (fun_mk (st := s_p_iter) l c k).binds (ps := ["self"]) fun _ _ _ _ _ _ us hl => match us, hl with | [_], _ => rfl⟩
theorem mk_p_check_part {K : PySem.W.Frag} {f : Addr} {od an : Option Addr} {sl : Array (Option Value)} {oc kV dc pm cd ct : Value} (l : K.lookup f = some ⟨oc, od, .func (PySem.W.fnOf "check_part" "Pool.check_part" (defArgs s_p_check_part) (defBody s_p_check_part) (defScope s_p_check_part) .none kV dc pm an cd ct), sl⟩) (c : PySem.W.codeIn K cd "Pool.check_part" = true) (k : PySem.W.keepIn K (.ref f) = true) :
    ∃ fd : FuncData, Fun K "check_part" "Pool.check_part" s_p_check_part f fd ∧ Binds K fd ["self", "number"] [] := ⟨_, fun_mk (st := s_p_check_part) l c k, (fun_mk (st := s_p_check_part) l c k).binds (ps := ["self", "number"]) fun _ _ _ _ _ _ us hl => match us, hl with | [_, _], _ => rfl⟩
theorem mk_p_check_parts {K : PySem.W.Frag} {f : Addr} {od an : Option Addr} {sl : Array (Option Value)} {oc kV dc pm cd ct : Value} (l : K.lookup f = some ⟨oc, od, .func (PySem.W.fnOf "check_parts" "Pool.check_parts" (defArgs s_p_check_parts) (defBody s_p_check_parts) (defScope s_p_check_parts) .none kV dc pm an cd ct), sl⟩) (c : PySem.W.codeIn K cd "Pool.check_parts" = true) (k : PySem.W.keepIn K (.ref f) = true) :
    ∃ fd : FuncData, Fun K "check_parts" "Pool.check_parts" s_p_check_parts f fd ∧ Binds K fd ["self", "numbers"] [] := ⟨_, fun_mk (st := s_p_check_parts) l c k, (fun_mk (st := s_p_check_parts) l c k).binds (ps := ["self", "numbers"]) fun _ _ _ _ _ _ us hl => match us, hl with | [_, _], _ => rfl⟩
theorem mk_p_num {K : PySem.W.Frag} {f : Addr} {od an : Option Addr} {sl : Array (Option Value)} {oc kV dc pm cd ct : Value} (l : K.lookup f = some ⟨oc, od, .func (PySem.W.fnOf "num" "Pool.num" (defArgs s_p_num) (defBody s_p_num) (defScope s_p_num) .none kV dc pm an cd ct), sl⟩) (c : PySem.W.codeIn K cd "Pool.num" = true) (k : PySem.W.keepIn K (.ref f) = true) :
    ∃ fd : FuncData, Fun K "num" "Pool.num" s_p_num f fd ∧ Binds K fd ["self", "value"] [] := ⟨_, fun_mk (st := s_p_num) l c k, (fun_mk (st := s_p_num) l c k).binds (ps := ["self", "value"]) fun _ _ _ _ _ _ us hl => match us, hl with | [_, _], _ => rfl⟩
theorem mk_p_unknown {K : PySem.W.Frag} {f : Addr} {od an : Option Addr} {sl : Array (Option Value)} {oc kV dc pm cd ct : Value} (l : K.lookup f = some ⟨oc, od, .func (PySem.W.fnOf "unknown" "Pool.unknown" (defArgs s_p_unknown) (defBody s_p_unknown) (defScope s_p_unknown) .none kV dc pm an cd ct), sl⟩) (c : PySem.W.codeIn K cd "Pool.unknown" = true) (k : PySem.W.keepIn K (.ref f) = true) :
    ∃ fd : FuncData, Fun K "unknown" "Pool.unknown" s_p_unknown f fd ∧ Binds K fd ["self", "number"] [] := ⟨_, fun_mk (st := s_p_unknown) l c k, (fun_mk (st := s_p_unknown) l c k).binds (ps := ["self", "number"]) fun _ _ _ _ _ _ us hl => match us, hl with | [_, _], _ => rfl⟩
theorem mk_p_apply {K : PySem.W.Frag} {f : Addr} {od an : Option Addr} {sl : Array (Option Value)} {oc kV dc pm cd ct : Value} (l : K.lookup f = some ⟨oc, od, .func (PySem.W.fnOf "apply" "Pool.apply" (defArgs s_p_apply) (defBody s_p_apply) (defScope s_p_apply) .none kV dc pm an cd ct), sl⟩) (c : PySem.W.codeIn K cd "Pool.apply" = true) (k : PySem.W.keepIn K (.ref f) = true) :
    ∃ fd : FuncData, Fun K "apply" "Pool.apply" s_p_apply f fd ∧ Binds K fd ["self", "name", "one", "other"] [] := ⟨_, fun_mk (st := s_p_apply) l c k, (fun_mk (st := s_p_apply) l c k).binds (ps := ["self", "name", "one", "other"]) fun _ _ _ _ _ _ us hl => match us, hl with | [_, _, _, _], _ => rfl⟩
theorem mk_p_part {K : PySem.W.Frag} {f : Addr} {od an : Option Addr} {sl : Array (Option Value)} {oc kV dc pm cd ct : Value} (l : K.lookup f = some ⟨oc, od, .func (PySem.W.fnOf "part" "Pool.part" (defArgs s_p_part) (defBody s_p_part) (defScope s_p_part) .none kV dc pm an cd ct), sl⟩) (c : PySem.W.codeIn K cd "Pool.part" = true) (k : PySem.W.keepIn K (.ref f) = true) :
    ∃ fd : FuncData, Fun K "part" "Pool.part" s_p_part f fd ∧ Binds K fd ["self", "number"] [] := ⟨_, fun_mk (st := s_p_part) l c k, (fun_mk (st := s_p_part) l c k).binds (ps := ["self", "number"]) fun _ _ _ _ _ _ us hl => match us, hl with | [_, _], _ => rfl⟩
theorem mk_p_value {K : PySem.W.Frag} {f : Addr} {od an : Option Addr} {sl : Array (Option Value)} {oc kV dc pm cd ct : Value} (l : K.lookup f = some ⟨oc, od, .func (PySem.W.fnOf "value" "Pool.value" (defArgs s_p_value) (defBody s_p_value) (defScope s_p_value) .none kV dc pm an cd ct), sl⟩) (c : PySem.W.codeIn K cd "Pool.value" = true) (k : PySem.W.keepIn K (.ref f) = true) :
    ∃ fd : FuncData, Fun K "value" "Pool.value" s_p_value f fd ∧ Binds K fd ["self", "number", "words"] [] := ⟨_, fun_mk (st := s_p_value) l c k, (fun_mk (st := s_p_value) l c k).binds (ps := ["self", "number", "words"]) fun _ _ _ _ _ _ us hl => match us, hl with | [_, _, _], _ => rfl⟩
theorem mk_p_reached {K : PySem.W.Frag} {f : Addr} {od an : Option Addr} {sl : Array (Option Value)} {oc kV dc pm cd ct : Value} (l : K.lookup f = some ⟨oc, od, .func (PySem.W.fnOf "reached" "Pool.reached" (defArgs s_p_reached) (defBody s_p_reached) (defScope s_p_reached) .none kV dc pm an cd ct), sl⟩) (c : PySem.W.codeIn K cd "Pool.reached" = true) (k : PySem.W.keepIn K (.ref f) = true) :
    ∃ fd : FuncData, Fun K "reached" "Pool.reached" s_p_reached f fd ∧ Binds K fd ["self", "number"] [] := ⟨_, fun_mk (st := s_p_reached) l c k, (fun_mk (st := s_p_reached) l c k).binds (ps := ["self", "number"]) fun _ _ _ _ _ _ us hl => match us, hl with | [_, _], _ => rfl⟩
theorem mk_p_reached_by {K : PySem.W.Frag} {f : Addr} {od an : Option Addr} {sl : Array (Option Value)} {oc kV dc pm cd ct : Value} (l : K.lookup f = some ⟨oc, od, .func (PySem.W.fnOf "reached_by" "Pool.reached_by" (defArgs s_p_reached_by) (defBody s_p_reached_by) (defScope s_p_reached_by) .none kV dc pm an cd ct), sl⟩) (c : PySem.W.codeIn K cd "Pool.reached_by" = true) (k : PySem.W.keepIn K (.ref f) = true) :
    ∃ fd : FuncData, Fun K "reached_by" "Pool.reached_by" s_p_reached_by f fd ∧ Binds K fd ["self", "numbers"] [] := ⟨_, fun_mk (st := s_p_reached_by) l c k, (fun_mk (st := s_p_reached_by) l c k).binds (ps := ["self", "numbers"]) fun _ _ _ _ _ _ us hl => match us, hl with | [_, _], _ => rfl⟩
theorem mk_p_chosen {K : PySem.W.Frag} {f : Addr} {od an : Option Addr} {sl : Array (Option Value)} {oc kV dc pm cd ct : Value} (l : K.lookup f = some ⟨oc, od, .func (PySem.W.fnOf "chosen" "Pool.chosen" (defArgs s_p_chosen) (defBody s_p_chosen) (defScope s_p_chosen) .none kV dc pm an cd ct), sl⟩) (c : PySem.W.codeIn K cd "Pool.chosen" = true) (k : PySem.W.keepIn K (.ref f) = true) :
    ∃ fd : FuncData, Fun K "chosen" "Pool.chosen" s_p_chosen f fd ∧ Binds K fd ["self", "test", "one", "other"] [] := ⟨_, fun_mk (st := s_p_chosen) l c k, (fun_mk (st := s_p_chosen) l c k).binds (ps := ["self", "test", "one", "other"]) fun _ _ _ _ _ _ us hl => match us, hl with | [_, _, _, _], _ => rfl⟩
theorem mk_p_carry {K : PySem.W.Frag} {f : Addr} {od an : Option Addr} {sl : Array (Option Value)} {oc kV dc pm cd ct : Value} (l : K.lookup f = some ⟨oc, od, .func (PySem.W.fnOf "carry" "Pool.carry" (defArgs s_p_carry) (defBody s_p_carry) (defScope s_p_carry) .none kV dc pm an cd ct), sl⟩) (c : PySem.W.codeIn K cd "Pool.carry" = true) (k : PySem.W.keepIn K (.ref f) = true) :
    ∃ fd : FuncData, Fun K "carry" "Pool.carry" s_p_carry f fd ∧ Binds K fd ["self", "one", "other"] [] := ⟨_, fun_mk (st := s_p_carry) l c k, (fun_mk (st := s_p_carry) l c k).binds (ps := ["self", "one", "other"]) fun _ _ _ _ _ _ us hl => match us, hl with | [_, _, _], _ => rfl⟩
theorem mk_p_made {K : PySem.W.Frag} {f : Addr} {od an : Option Addr} {sl : Array (Option Value)} {oc kV dc pm cd ct : Value} (l : K.lookup f = some ⟨oc, od, .func (PySem.W.fnOf "_made" "Pool._made" (defArgs s_p_made) (defBody s_p_made) (defScope s_p_made) .none kV dc pm an cd ct), sl⟩) (c : PySem.W.codeIn K cd "Pool._made" = true) (k : PySem.W.keepIn K (.ref f) = true) :
    ∃ fd : FuncData, Fun K "_made" "Pool._made" s_p_made f fd ∧ Binds K fd ["self", "part"] [] := ⟨_, fun_mk (st := s_p_made) l c k, (fun_mk (st := s_p_made) l c k).binds (ps := ["self", "part"]) fun _ _ _ _ _ _ us hl => match us, hl with | [_, _], _ => rfl⟩
theorem mk_p_word {K : PySem.W.Frag} {f : Addr} {od an : Option Addr} {sl : Array (Option Value)} {oc kV dc pm cd ct : Value} (l : K.lookup f = some ⟨oc, od, .func (PySem.W.fnOf "_word" "Pool._word" (defArgs s_p_word) (defBody s_p_word) (defScope s_p_word) .none kV dc pm an cd ct), sl⟩) (c : PySem.W.codeIn K cd "Pool._word" = true) (k : PySem.W.keepIn K (.ref f) = true) :
    ∃ fd : FuncData, Fun K "_word" "Pool._word" s_p_word f fd ∧ Binds K fd ["self", "number"] [] := ⟨_, fun_mk (st := s_p_word) l c k, (fun_mk (st := s_p_word) l c k).binds (ps := ["self", "number"]) fun _ _ _ _ _ _ us hl => match us, hl with | [_, _], _ => rfl⟩
theorem mk_p_gets {K : PySem.W.Frag} {f : Addr} {od an : Option Addr} {sl : Array (Option Value)} {oc kV dc pm cd ct : Value} (l : K.lookup f = some ⟨oc, od, .func (PySem.W.fnOf "_gets" "Pool._gets" (defArgs s_p_gets) (defBody s_p_gets) (defScope s_p_gets) .none kV dc pm an cd ct), sl⟩) (c : PySem.W.codeIn K cd "Pool._gets" = true) (k : PySem.W.keepIn K (.ref f) = true) :
    ∃ fd : FuncData, Fun K "_gets" "Pool._gets" s_p_gets f fd ∧ Binds K fd ["self", "numbers"] [] := ⟨_, fun_mk (st := s_p_gets) l c k, (fun_mk (st := s_p_gets) l c k).binds (ps := ["self", "numbers"]) fun _ _ _ _ _ _ us hl => match us, hl with | [_, _], _ => rfl⟩
theorem mk_number_of {K : PySem.W.Frag} {f : Addr} {od an : Option Addr} {sl : Array (Option Value)} {oc kV dc pm cd ct : Value} (l : K.lookup f = some ⟨oc, od, .func (PySem.W.fnOf "number_of" "number_of" (defArgs s_number_of) (defBody s_number_of) (defScope s_number_of) .none kV dc pm an cd ct), sl⟩) (c : PySem.W.codeIn K cd "number_of" = true) (k : PySem.W.keepIn K (.ref f) = true) :
    ∃ fd : FuncData, Fun K "number_of" "number_of" s_number_of f fd ∧ Binds K fd ["token"] [] := ⟨_, fun_mk (st := s_number_of) l c k, (fun_mk (st := s_number_of) l c k).binds (ps := ["token"]) fun _ _ _ _ _ _ us hl => match us, hl with | [_], _ => rfl⟩
theorem mk_part_text {K : PySem.W.Frag} {f : Addr} {od an : Option Addr} {sl : Array (Option Value)} {oc kV dc pm cd ct : Value} (l : K.lookup f = some ⟨oc, od, .func (PySem.W.fnOf "part_text" "part_text" (defArgs s_part_text) (defBody s_part_text) (defScope s_part_text) .none kV dc pm an cd ct), sl⟩) (c : PySem.W.codeIn K cd "part_text" = true) (k : PySem.W.keepIn K (.ref f) = true) :
    ∃ fd : FuncData, Fun K "part_text" "part_text" s_part_text f fd ∧ Binds K fd ["pool", "part"] [] := ⟨_, fun_mk (st := s_part_text) l c k, (fun_mk (st := s_part_text) l c k).binds (ps := ["pool", "part"]) fun _ _ _ _ _ _ us hl => match us, hl with | [_, _], _ => rfl⟩
theorem mk_size {K : PySem.W.Frag} {f : Addr} {od an : Option Addr} {sl : Array (Option Value)} {oc kV dc pm cd ct : Value} (l : K.lookup f = some ⟨oc, od, .func (PySem.W.fnOf "_size" "_size" (defArgs s_size) (defBody s_size) (defScope s_size) .none kV dc pm an cd ct), sl⟩) (c : PySem.W.codeIn K cd "_size" = true) (k : PySem.W.keepIn K (.ref f) = true) :
    ∃ fd : FuncData, Fun K "_size" "_size" s_size f fd ∧ Binds K fd ["pool", "part"] [] := ⟨_, fun_mk (st := s_size) l c k, (fun_mk (st := s_size) l c k).binds (ps := ["pool", "part"]) fun _ _ _ _ _ _ us hl => match us, hl with | [_, _], _ => rfl⟩
theorem mk_part_of_words {K : PySem.W.Frag} {f : Addr} {od an : Option Addr} {sl : Array (Option Value)} {oc kV dc pm cd ct : Value} (l : K.lookup f = some ⟨oc, od, .func (PySem.W.fnOf "part_of_words" "part_of_words" (defArgs s_part_of_words) (defBody s_part_of_words) (defScope s_part_of_words) .none kV dc pm an cd ct), sl⟩) (c : PySem.W.codeIn K cd "part_of_words" = true) (k : PySem.W.keepIn K (.ref f) = true) :
    ∃ fd : FuncData, Fun K "part_of_words" "part_of_words" s_part_of_words f fd ∧ Binds K fd ["pool", "words", "letters"] [] := ⟨_, fun_mk (st := s_part_of_words) l c k, (fun_mk (st := s_part_of_words) l c k).binds (ps := ["pool", "words", "letters"]) fun _ _ _ _ _ _ us hl => match us, hl with | [_, _, _], _ => rfl⟩
theorem mk_operand {K : PySem.W.Frag} {f : Addr} {od an : Option Addr} {sl : Array (Option Value)} {oc kV dc pm cd ct : Value} (l : K.lookup f = some ⟨oc, od, .func (PySem.W.fnOf "_operand" "_operand" (defArgs s_operand) (defBody s_operand) (defScope s_operand) .none kV dc pm an cd ct), sl⟩) (c : PySem.W.codeIn K cd "_operand" = true) (k : PySem.W.keepIn K (.ref f) = true) :
    ∃ fd : FuncData, Fun K "_operand" "_operand" s_operand f fd ∧ Binds K fd ["pool", "token", "letters"] [] := ⟨_, fun_mk (st := s_operand) l c k, (fun_mk (st := s_operand) l c k).binds (ps := ["pool", "token", "letters"]) fun _ _ _ _ _ _ us hl => match us, hl with | [_, _, _], _ => rfl⟩
theorem mk_word_of {K : PySem.W.Frag} {f : Addr} {od an : Option Addr} {sl : Array (Option Value)} {oc kV dc pm cd ct : Value} (l : K.lookup f = some ⟨oc, od, .func (PySem.W.fnOf "_word_of" "_word_of" (defArgs s_word_of) (defBody s_word_of) (defScope s_word_of) .none kV dc pm an cd ct), sl⟩) (c : PySem.W.codeIn K cd "_word_of" = true) (k : PySem.W.keepIn K (.ref f) = true) :
    ∃ fd : FuncData, Fun K "_word_of" "_word_of" s_word_of f fd ∧ Binds K fd ["pool", "token"] [] := ⟨_, fun_mk (st := s_word_of) l c k, (fun_mk (st := s_word_of) l c k).binds (ps := ["pool", "token"]) fun _ _ _ _ _ _ us hl => match us, hl with | [_, _], _ => rfl⟩
theorem mk_check_tokens {K : PySem.W.Frag} {f : Addr} {od an : Option Addr} {sl : Array (Option Value)} {oc kV dc pm cd ct : Value} (l : K.lookup f = some ⟨oc, od, .func (PySem.W.fnOf "_check_tokens" "_check_tokens" (defArgs s_check_tokens) (defBody s_check_tokens) (defScope s_check_tokens) .none kV dc pm an cd ct), sl⟩) (c : PySem.W.codeIn K cd "_check_tokens" = true) (k : PySem.W.keepIn K (.ref f) = true) :
    ∃ fd : FuncData, Fun K "_check_tokens" "_check_tokens" s_check_tokens f fd ∧ Binds K fd ["pool", "words", "letters"] [] := ⟨_, fun_mk (st := s_check_tokens) l c k, (fun_mk (st := s_check_tokens) l c k).binds (ps := ["pool", "words", "letters"]) fun _ _ _ _ _ _ us hl => match us, hl with | [_, _, _], _ => rfl⟩
theorem mk_law_draws {K : PySem.W.Frag} {f : Addr} {od an : Option Addr} {sl : Array (Option Value)} {oc kV dc pm cd ct : Value} (l : K.lookup f = some ⟨oc, od, .func (PySem.W.fnOf "_law_draws" "_law_draws" (defArgs s_law_draws) (defBody s_law_draws) (defScope s_law_draws) .none kV dc pm an cd ct), sl⟩) (c : PySem.W.codeIn K cd "_law_draws" = true) (k : PySem.W.keepIn K (.ref f) = true) :
    ∃ fd : FuncData, Fun K "_law_draws" "_law_draws" s_law_draws f fd ∧ Binds K fd ["_law_script"] [] := ⟨_, fun_mk (st := s_law_draws) l c k, (fun_mk (st := s_law_draws) l c k).binds (ps := ["_law_script"]) fun _ _ _ _ _ _ us hl => match us, hl with | [_], _ => rfl⟩
theorem mk_law_take {K : PySem.W.Frag} {f : Addr} {od an : Option Addr} {sl : Array (Option Value)} {oc kV dc pm cd ct : Value} (l : K.lookup f = some ⟨oc, od, .func (PySem.W.fnOf "_law_take" "_law_take" (defArgs s_law_take) (defBody s_law_take) (defScope s_law_take) .none kV dc pm an cd ct), sl⟩) (c : PySem.W.codeIn K cd "_law_take" = true) (k : PySem.W.keepIn K (.ref f) = true) :
    ∃ fd : FuncData, Fun K "_law_take" "_law_take" s_law_take f fd ∧ Binds K fd ["_law_draws_here", "_law_many"] [] := ⟨_, fun_mk (st := s_law_take) l c k, (fun_mk (st := s_law_take) l c k).binds (ps := ["_law_draws_here", "_law_many"]) fun _ _ _ _ _ _ us hl => match us, hl with | [_, _], _ => rfl⟩
theorem mk_law_word {K : PySem.W.Frag} {f : Addr} {od an : Option Addr} {sl : Array (Option Value)} {oc kV dc pm cd ct : Value} (l : K.lookup f = some ⟨oc, od, .func (PySem.W.fnOf "_law_word" "_law_word" (defArgs s_law_word) (defBody s_law_word) (defScope s_law_word) .none kV dc pm an cd ct), sl⟩) (c : PySem.W.codeIn K cd "_law_word" = true) (k : PySem.W.keepIn K (.ref f) = true) :
    ∃ fd : FuncData, Fun K "_law_word" "_law_word" s_law_word f fd ∧ Binds K fd ["_law_draws_here", "_law_width"] [] := ⟨_, fun_mk (st := s_law_word) l c k, (fun_mk (st := s_law_word) l c k).binds (ps := ["_law_draws_here", "_law_width"]) fun _ _ _ _ _ _ us hl => match us, hl with | [_, _], _ => rfl⟩
theorem mk_law_is_int {K : PySem.W.Frag} {f : Addr} {od an : Option Addr} {sl : Array (Option Value)} {oc kV dc pm cd ct : Value} (l : K.lookup f = some ⟨oc, od, .func (PySem.W.fnOf "_law_is_int" "_law_is_int" (defArgs s_law_is_int) (defBody s_law_is_int) (defScope s_law_is_int) .none kV dc pm an cd ct), sl⟩) (c : PySem.W.codeIn K cd "_law_is_int" = true) (k : PySem.W.keepIn K (.ref f) = true) :
    ∃ fd : FuncData, Fun K "_law_is_int" "_law_is_int" s_law_is_int f fd ∧ Binds K fd ["_law_thing"] [] := ⟨_, fun_mk (st := s_law_is_int) l c k, (fun_mk (st := s_law_is_int) l c k).binds (ps := ["_law_thing"]) fun _ _ _ _ _ _ us hl => match us, hl with | [_], _ => rfl⟩
theorem mk_law_op {K : PySem.W.Frag} {f : Addr} {od an : Option Addr} {sl : Array (Option Value)} {oc kV dc pm cd ct : Value} (l : K.lookup f = some ⟨oc, od, .func (PySem.W.fnOf "_law_op" "_law_op" (defArgs s_law_op) (defBody s_law_op) (defScope s_law_op) .none kV dc pm an cd ct), sl⟩) (c : PySem.W.codeIn K cd "_law_op" = true) (k : PySem.W.keepIn K (.ref f) = true) :
    ∃ fd : FuncData, Fun K "_law_op" "_law_op" s_law_op f fd ∧ Binds K fd ["_law_name", "_law_one", "_law_other", "_law_width"] [] := ⟨_, fun_mk (st := s_law_op) l c k, (fun_mk (st := s_law_op) l c k).binds (ps := ["_law_name", "_law_one", "_law_other", "_law_width"]) fun _ _ _ _ _ _ us hl => match us, hl with | [_, _, _, _], _ => rfl⟩
theorem mk_law_ops {K : PySem.W.Frag} {f : Addr} {od an : Option Addr} {sl : Array (Option Value)} {oc kV dc pm cd ct : Value} (l : K.lookup f = some ⟨oc, od, .func (PySem.W.fnOf "_law_ops" "_law_ops" (defArgs s_law_ops) (defBody s_law_ops) (defScope s_law_ops) .none kV dc pm an cd ct), sl⟩) (c : PySem.W.codeIn K cd "_law_ops" = true) (k : PySem.W.keepIn K (.ref f) = true) :
    ∃ fd : FuncData, Fun K "_law_ops" "_law_ops" s_law_ops f fd ∧ Binds K fd [] [] := ⟨_, fun_mk (st := s_law_ops) l c k, (fun_mk (st := s_law_ops) l c k).binds (ps := []) fun _ _ _ _ _ _ us hl => match us, hl with | [], _ => rfl⟩
theorem mk_law_term_rows {K : PySem.W.Frag} {f : Addr} {od an : Option Addr} {sl : Array (Option Value)} {oc kV dc pm cd ct : Value} (l : K.lookup f = some ⟨oc, od, .func (PySem.W.fnOf "_law_term_rows" "_law_term_rows" (defArgs s_law_term_rows) (defBody s_law_term_rows) (defScope s_law_term_rows) .none kV dc pm an cd ct), sl⟩) (c : PySem.W.codeIn K cd "_law_term_rows" = true) (k : PySem.W.keepIn K (.ref f) = true) :
    ∃ fd : FuncData, Fun K "_law_term_rows" "_law_term_rows" s_law_term_rows f fd ∧ Binds K fd ["_law_draws_here", "_law_unknowns", "_law_width", "_law_many", "_law_plain"] [] := ⟨_, fun_mk (st := s_law_term_rows) l c k, (fun_mk (st := s_law_term_rows) l c k).binds (ps := ["_law_draws_here", "_law_unknowns", "_law_width", "_law_many", "_law_plain"]) fun _ _ _ _ _ _ us hl => match us, hl with | [_, _, _, _, _], _ => rfl⟩
theorem mk_law_row_words {K : PySem.W.Frag} {f : Addr} {od an : Option Addr} {sl : Array (Option Value)} {oc kV dc pm cd ct : Value} (l : K.lookup f = some ⟨oc, od, .func (PySem.W.fnOf "_law_row_words" "_law_row_words" (defArgs s_law_row_words) (defBody s_law_row_words) (defScope s_law_row_words) .none kV dc pm an cd ct), sl⟩) (c : PySem.W.codeIn K cd "_law_row_words" = true) (k : PySem.W.keepIn K (.ref f) = true) :
    ∃ fd : FuncData, Fun K "_law_row_words" "_law_row_words" s_law_row_words f fd ∧ Binds K fd ["_law_rows", "_law_words", "_law_width"] [] := ⟨_, fun_mk (st := s_law_row_words) l c k, (fun_mk (st := s_law_row_words) l c k).binds (ps := ["_law_rows", "_law_words", "_law_width"]) fun _ _ _ _ _ _ us hl => match us, hl with | [_, _, _], _ => rfl⟩
theorem mk_law_keep {K : PySem.W.Frag} {f : Addr} {od an : Option Addr} {sl : Array (Option Value)} {oc kV dc pm cd ct : Value} (l : K.lookup f = some ⟨oc, od, .func (PySem.W.fnOf "_law_keep" "_law_keep" (defArgs s_law_keep) (defBody s_law_keep) (defScope s_law_keep) .none kV dc pm an cd ct), sl⟩) (c : PySem.W.codeIn K cd "_law_keep" = true) (k : PySem.W.keepIn K (.ref f) = true) :
    ∃ fd : FuncData, Fun K "_law_keep" "_law_keep" s_law_keep f fd ∧ Binds K fd ["_law_parts", "_law_part_here"] [] := ⟨_, fun_mk (st := s_law_keep) l c k, (fun_mk (st := s_law_keep) l c k).binds (ps := ["_law_parts", "_law_part_here"]) fun _ _ _ _ _ _ us hl => match us, hl with | [_, _], _ => rfl⟩
theorem mk_law_short {K : PySem.W.Frag} {f : Addr} {od an : Option Addr} {sl : Array (Option Value)} {oc kV dc pm cd ct : Value} (l : K.lookup f = some ⟨oc, od, .func (PySem.W.fnOf "_law_short" "_law_short" (defArgs s_law_short) (defBody s_law_short) (defScope s_law_short) .none kV dc pm an cd ct), sl⟩) (c : PySem.W.codeIn K cd "_law_short" = true) (k : PySem.W.keepIn K (.ref f) = true) :
    ∃ fd : FuncData, Fun K "_law_short" "_law_short" s_law_short f fd ∧ Binds K fd ["_law_parts", "_law_width", "_law_name", "_law_one", "_law_other"] [] := ⟨_, fun_mk (st := s_law_short) l c k, (fun_mk (st := s_law_short) l c k).binds (ps := ["_law_parts", "_law_width", "_law_name", "_law_one", "_law_other"]) fun _ _ _ _ _ _ us hl => match us, hl with | [_, _, _, _, _], _ => rfl⟩
theorem mk_law_apply {K : PySem.W.Frag} {f : Addr} {od an : Option Addr} {sl : Array (Option Value)} {oc kV dc pm cd ct : Value} (l : K.lookup f = some ⟨oc, od, .func (PySem.W.fnOf "_law_apply" "_law_apply" (defArgs s_law_apply) (defBody s_law_apply) (defScope s_law_apply) .none kV dc pm an cd ct), sl⟩) (c : PySem.W.codeIn K cd "_law_apply" = true) (k : PySem.W.keepIn K (.ref f) = true) :
    ∃ fd : FuncData, Fun K "_law_apply" "_law_apply" s_law_apply f fd ∧ Binds K fd ["_law_parts", "_law_width", "_law_name", "_law_one", "_law_other"] [] := ⟨_, fun_mk (st := s_law_apply) l c k, (fun_mk (st := s_law_apply) l c k).binds (ps := ["_law_parts", "_law_width", "_law_name", "_law_one", "_law_other"]) fun _ _ _ _ _ _ us hl => match us, hl with | [_, _, _, _, _], _ => rfl⟩
theorem mk_law_part {K : PySem.W.Frag} {f : Addr} {od an : Option Addr} {sl : Array (Option Value)} {oc kV dc pm cd ct : Value} (l : K.lookup f = some ⟨oc, od, .func (PySem.W.fnOf "_law_part" "_law_part" (defArgs s_law_part) (defBody s_law_part) (defScope s_law_part) .none kV dc pm an cd ct), sl⟩) (c : PySem.W.codeIn K cd "_law_part" = true) (k : PySem.W.keepIn K (.ref f) = true) :
    ∃ fd : FuncData, Fun K "_law_part" "_law_part" s_law_part f fd ∧ Binds K fd ["_law_parts", "_law_width", "_law_row", "_law_places"] [] := ⟨_, fun_mk (st := s_law_part) l c k, (fun_mk (st := s_law_part) l c k).binds (ps := ["_law_parts", "_law_width", "_law_row", "_law_places"]) fun _ _ _ _ _ _ us hl => match us, hl with | [_, _, _, _], _ => rfl⟩
theorem mk_law_asked {K : PySem.W.Frag} {f : Addr} {od an : Option Addr} {sl : Array (Option Value)} {oc kV dc pm cd ct : Value} (l : K.lookup f = some ⟨oc, od, .func (PySem.W.fnOf "_law_asked" "_law_asked" (defArgs s_law_asked) (defBody s_law_asked) (defScope s_law_asked) .none kV dc pm an cd ct), sl⟩) (c : PySem.W.codeIn K cd "_law_asked" = true) (k : PySem.W.keepIn K (.ref f) = true) :
    ∃ fd : FuncData, Fun K "_law_asked" "_law_asked" s_law_asked f fd ∧ Binds K fd ["_law_pool", "_law_row", "_law_places"] [] := ⟨_, fun_mk (st := s_law_asked) l c k, (fun_mk (st := s_law_asked) l c k).binds (ps := ["_law_pool", "_law_row", "_law_places"]) fun _ _ _ _ _ _ us hl => match us, hl with | [_, _, _], _ => rfl⟩
theorem mk_law_all_made {K : PySem.W.Frag} {f : Addr} {od an : Option Addr} {sl : Array (Option Value)} {oc kV dc pm cd ct : Value} (l : K.lookup f = some ⟨oc, od, .func (PySem.W.fnOf "_law_all_made" "_law_all_made" (defArgs s_law_all_made) (defBody s_law_all_made) (defScope s_law_all_made) .none kV dc pm an cd ct), sl⟩) (c : PySem.W.codeIn K cd "_law_all_made" = true) (k : PySem.W.keepIn K (.ref f) = true) :
    ∃ fd : FuncData, Fun K "_law_all_made" "_law_all_made" s_law_all_made f fd ∧ Binds K fd ["_law_pool", "_law_parts", "_law_width", "_law_rows"] [] := ⟨_, fun_mk (st := s_law_all_made) l c k, (fun_mk (st := s_law_all_made) l c k).binds (ps := ["_law_pool", "_law_parts", "_law_width", "_law_rows"]) fun _ _ _ _ _ _ us hl => match us, hl with | [_, _, _, _], _ => rfl⟩
theorem mk_law_due_chosen {K : PySem.W.Frag} {f : Addr} {od an : Option Addr} {sl : Array (Option Value)} {oc kV dc pm cd ct : Value} (l : K.lookup f = some ⟨oc, od, .func (PySem.W.fnOf "_law_due_chosen" "_law_due_chosen" (defArgs s_law_due_chosen) (defBody s_law_due_chosen) (defScope s_law_due_chosen) .none kV dc pm an cd ct), sl⟩) (c : PySem.W.codeIn K cd "_law_due_chosen" = true) (k : PySem.W.keepIn K (.ref f) = true) :
    ∃ fd : FuncData, Fun K "_law_due_chosen" "_law_due_chosen" s_law_due_chosen f fd ∧ Binds K fd ["_law_parts", "_law_width", "_law_test", "_law_one", "_law_other"] [] := ⟨_, fun_mk (st := s_law_due_chosen) l c k, (fun_mk (st := s_law_due_chosen) l c k).binds (ps := ["_law_parts", "_law_width", "_law_test", "_law_one", "_law_other"]) fun _ _ _ _ _ _ us hl => match us, hl with | [_, _, _, _, _], _ => rfl⟩
theorem mk_law_chosen_carry {K : PySem.W.Frag} {f : Addr} {od an : Option Addr} {sl : Array (Option Value)} {oc kV dc pm cd ct : Value} (l : K.lookup f = some ⟨oc, od, .func (PySem.W.fnOf "_law_chosen_carry" "_law_chosen_carry" (defArgs s_law_chosen_carry) (defBody s_law_chosen_carry) (defScope s_law_chosen_carry) .none kV dc pm an cd ct), sl⟩) (c : PySem.W.codeIn K cd "_law_chosen_carry" = true) (k : PySem.W.keepIn K (.ref f) = true) :
    ∃ fd : FuncData, Fun K "_law_chosen_carry" "_law_chosen_carry" s_law_chosen_carry f fd ∧ Binds K fd ["_law_draws_here", "_law_pool", "_law_parts", "_law_rows", "_law_places", "_law_words", "_law_width"] [] := ⟨_, fun_mk (st := s_law_chosen_carry) l c k, (fun_mk (st := s_law_chosen_carry) l c k).binds (ps := ["_law_draws_here", "_law_pool", "_law_parts", "_law_rows", "_law_places", "_law_words", "_law_width"]) fun _ _ _ _ _ _ us hl => match us, hl with | [_, _, _, _, _, _, _], _ => rfl⟩
theorem mk_law_lifted_told {K : PySem.W.Frag} {f : Addr} {od an : Option Addr} {sl : Array (Option Value)} {oc kV dc pm cd ct : Value} (l : K.lookup f = some ⟨oc, od, .func (PySem.W.fnOf "_law_lifted_told" "_law_lifted_told" (defArgs s_law_lifted_told) (defBody s_law_lifted_told) (defScope s_law_lifted_told) .none kV dc pm an cd ct), sl⟩) (c : PySem.W.codeIn K cd "_law_lifted_told" = true) (k : PySem.W.keepIn K (.ref f) = true) :
    ∃ fd : FuncData, Fun K "_law_lifted_told" "_law_lifted_told" s_law_lifted_told f fd ∧ Binds K fd ["_law_pool", "_law_name", "_law_one", "_law_other", "_law_width"] [] := ⟨_, fun_mk (st := s_law_lifted_told) l c k, (fun_mk (st := s_law_lifted_told) l c k).binds (ps := ["_law_pool", "_law_name", "_law_one", "_law_other", "_law_width"]) fun _ _ _ _ _ _ us hl => match us, hl with | [_, _, _, _, _], _ => rfl⟩
theorem mk_law_lifted_well {K : PySem.W.Frag} {f : Addr} {od an : Option Addr} {sl : Array (Option Value)} {oc kV dc pm cd ct : Value} (l : K.lookup f = some ⟨oc, od, .func (PySem.W.fnOf "_law_lifted_well" "_law_lifted_well" (defArgs s_law_lifted_well) (defBody s_law_lifted_well) (defScope s_law_lifted_well) .none kV dc pm an cd ct), sl⟩) (c : PySem.W.codeIn K cd "_law_lifted_well" = true) (k : PySem.W.keepIn K (.ref f) = true) :
    ∃ fd : FuncData, Fun K "_law_lifted_well" "_law_lifted_well" s_law_lifted_well f fd ∧ Binds K fd ["_law_draws_here", "_law_rows", "_law_words", "_law_width"] [] := ⟨_, fun_mk (st := s_law_lifted_well) l c k, (fun_mk (st := s_law_lifted_well) l c k).binds (ps := ["_law_draws_here", "_law_rows", "_law_words", "_law_width"]) fun _ _ _ _ _ _ us hl => match us, hl with | [_, _, _, _], _ => rfl⟩
theorem mk_law_tokens {K : PySem.W.Frag} {f : Addr} {od an : Option Addr} {sl : Array (Option Value)} {oc kV dc pm cd ct : Value} (l : K.lookup f = some ⟨oc, od, .func (PySem.W.fnOf "_law_tokens" "_law_tokens" (defArgs s_law_tokens) (defBody s_law_tokens) (defScope s_law_tokens) .none kV dc pm an cd ct), sl⟩) (c : PySem.W.codeIn K cd "_law_tokens" = true) (k : PySem.W.keepIn K (.ref f) = true) :
    ∃ fd : FuncData, Fun K "_law_tokens" "_law_tokens" s_law_tokens f fd ∧ Binds K fd ["_law_parts", "_law_number"] [] := ⟨_, fun_mk (st := s_law_tokens) l c k, (fun_mk (st := s_law_tokens) l c k).binds (ps := ["_law_parts", "_law_number"]) fun _ _ _ _ _ _ us hl => match us, hl with | [_, _], _ => rfl⟩
theorem mk_law_text_is {K : PySem.W.Frag} {f : Addr} {od an : Option Addr} {sl : Array (Option Value)} {oc kV dc pm cd ct : Value} (l : K.lookup f = some ⟨oc, od, .func (PySem.W.fnOf "_law_text_is" "_law_text_is" (defArgs s_law_text_is) (defBody s_law_text_is) (defScope s_law_text_is) .none kV dc pm an cd ct), sl⟩) (c : PySem.W.codeIn K cd "_law_text_is" = true) (k : PySem.W.keepIn K (.ref f) = true) :
    ∃ fd : FuncData, Fun K "_law_text_is" "_law_text_is" s_law_text_is f fd ∧ Binds K fd ["_law_pool", "_law_part_here", "_law_tokens_here"] [] := ⟨_, fun_mk (st := s_law_text_is) l c k, (fun_mk (st := s_law_text_is) l c k).binds (ps := ["_law_pool", "_law_part_here", "_law_tokens_here"]) fun _ _ _ _ _ _ us hl => match us, hl with | [_, _, _], _ => rfl⟩
theorem mk_law_read {K : PySem.W.Frag} {f : Addr} {od an : Option Addr} {sl : Array (Option Value)} {oc kV dc pm cd ct : Value} (l : K.lookup f = some ⟨oc, od, .func (PySem.W.fnOf "_law_read" "_law_read" (defArgs s_law_read) (defBody s_law_read) (defScope s_law_read) .none kV dc pm an cd ct), sl⟩) (c : PySem.W.codeIn K cd "_law_read" = true) (k : PySem.W.keepIn K (.ref f) = true) :
    ∃ fd : FuncData, Fun K "_law_read" "_law_read" s_law_read f fd ∧ Binds K fd ["_law_pool", "_law_tokens_here", "_law_letters"] [] := ⟨_, fun_mk (st := s_law_read) l c k, (fun_mk (st := s_law_read) l c k).binds (ps := ["_law_pool", "_law_tokens_here", "_law_letters"]) fun _ _ _ _ _ _ us hl => match us, hl with | [_, _, _], _ => rfl⟩
theorem mk_law_spoiled {K : PySem.W.Frag} {f : Addr} {od an : Option Addr} {sl : Array (Option Value)} {oc kV dc pm cd ct : Value} (l : K.lookup f = some ⟨oc, od, .func (PySem.W.fnOf "_law_spoiled" "_law_spoiled" (defArgs s_law_spoiled) (defBody s_law_spoiled) (defScope s_law_spoiled) .none kV dc pm an cd ct), sl⟩) (c : PySem.W.codeIn K cd "_law_spoiled" = true) (k : PySem.W.keepIn K (.ref f) = true) :
    ∃ fd : FuncData, Fun K "_law_spoiled" "_law_spoiled" s_law_spoiled f fd ∧ Binds K fd ["_law_draws_here", "_law_pool", "_law_tokens_here", "_law_letters"] [] := ⟨_, fun_mk (st := s_law_spoiled) l c k, (fun_mk (st := s_law_spoiled) l c k).binds (ps := ["_law_draws_here", "_law_pool", "_law_tokens_here", "_law_letters"]) fun _ _ _ _ _ _ us hl => match us, hl with | [_, _, _, _], _ => rfl⟩
theorem mk_law_read_new {K : PySem.W.Frag} {f : Addr} {od an : Option Addr} {sl : Array (Option Value)} {oc kV dc pm cd ct : Value} (l : K.lookup f = some ⟨oc, od, .func (PySem.W.fnOf "_law_read_new" "_law_read_new" (defArgs s_law_read_new) (defBody s_law_read_new) (defScope s_law_read_new) .none kV dc pm an cd ct), sl⟩) (c : PySem.W.codeIn K cd "_law_read_new" = true) (k : PySem.W.keepIn K (.ref f) = true) :
    ∃ fd : FuncData, Fun K "_law_read_new" "_law_read_new" s_law_read_new f fd ∧ Binds K fd ["_law_width", "_law_tokens_here"] [] := ⟨_, fun_mk (st := s_law_read_new) l c k, (fun_mk (st := s_law_read_new) l c k).binds (ps := ["_law_width", "_law_tokens_here"]) fun _ _ _ _ _ _ us hl => match us, hl with | [_, _], _ => rfl⟩
theorem mk_law_written {K : PySem.W.Frag} {f : Addr} {od an : Option Addr} {sl : Array (Option Value)} {oc kV dc pm cd ct : Value} (l : K.lookup f = some ⟨oc, od, .func (PySem.W.fnOf "_law_written" "_law_written" (defArgs s_law_written) (defBody s_law_written) (defScope s_law_written) .none kV dc pm an cd ct), sl⟩) (c : PySem.W.codeIn K cd "_law_written" = true) (k : PySem.W.keepIn K (.ref f) = true) :
    ∃ fd : FuncData, Fun K "_law_written" "_law_written" s_law_written f fd ∧ Binds K fd ["_law_draws_here", "_law_pool", "_law_parts", "_law_width"] [] := ⟨_, fun_mk (st := s_law_written) l c k, (fun_mk (st := s_law_written) l c k).binds (ps := ["_law_draws_here", "_law_pool", "_law_parts", "_law_width"]) fun _ _ _ _ _ _ us hl => match us, hl with | [_, _, _, _], _ => rfl⟩
theorem mk_law_odd_letters {K : PySem.W.Frag} {f : Addr} {od an : Option Addr} {sl : Array (Option Value)} {oc kV dc pm cd ct : Value} (l : K.lookup f = some ⟨oc, od, .func (PySem.W.fnOf "_law_odd_letters" "_law_odd_letters" (defArgs s_law_odd_letters) (defBody s_law_odd_letters) (defScope s_law_odd_letters) .none kV dc pm an cd ct), sl⟩) (c : PySem.W.codeIn K cd "_law_odd_letters" = true) (k : PySem.W.keepIn K (.ref f) = true) :
    ∃ fd : FuncData, Fun K "_law_odd_letters" "_law_odd_letters" s_law_odd_letters f fd ∧ Binds K fd ["_law_draws_here"] [] := ⟨_, fun_mk (st := s_law_odd_letters) l c k, (fun_mk (st := s_law_odd_letters) l c k).binds (ps := ["_law_draws_here"]) fun _ _ _ _ _ _ us hl => match us, hl with | [_], _ => rfl⟩
theorem mk_law_long_texts {K : PySem.W.Frag} {f : Addr} {od an : Option Addr} {sl : Array (Option Value)} {oc kV dc pm cd ct : Value} (l : K.lookup f = some ⟨oc, od, .func (PySem.W.fnOf "_law_long_texts" "_law_long_texts" (defArgs s_law_long_texts) (defBody s_law_long_texts) (defScope s_law_long_texts) .none kV dc pm an cd ct), sl⟩) (c : PySem.W.codeIn K cd "_law_long_texts" = true) (k : PySem.W.keepIn K (.ref f) = true) :
    ∃ fd : FuncData, Fun K "_law_long_texts" "_law_long_texts" s_law_long_texts f fd ∧ Binds K fd [] [] := ⟨_, fun_mk (st := s_law_long_texts) l c k, (fun_mk (st := s_law_long_texts) l c k).binds (ps := []) fun _ _ _ _ _ _ us hl => match us, hl with | [], _ => rfl⟩
theorem mk_law {K : PySem.W.Frag} {f : Addr} {od an : Option Addr} {sl : Array (Option Value)} {oc kV dc pm cd ct : Value} (l : K.lookup f = some ⟨oc, od, .func (PySem.W.fnOf "law" "law" (defArgs s_law) (defBody s_law) (defScope s_law) .none kV dc pm an cd ct), sl⟩) (c : PySem.W.codeIn K cd "law" = true) (k : PySem.W.keepIn K (.ref f) = true) :
    ∃ fd : FuncData, Fun K "law" "law" s_law f fd ∧ Binds K fd ["_law_script"] [] := ⟨_, fun_mk (st := s_law) l c k, (fun_mk (st := s_law) l c k).binds (ps := ["_law_script"]) fun _ _ _ _ _ _ us hl => match us, hl with | [_], _ => rfl⟩
theorem all_mk {K : PySem.W.Frag} {h : Heap} {mg : Str → Option Value} {C f_TooMany_init f_BadNumber_init f_BadWords_init f_BadOp_init f_op_word f_shortened f_shortened_and f_shortened_twice f_is_int f_is_row f_check_int f_ones f_lifted f_p_init f_p_len f_p_iter f_p_check_part f_p_check_parts f_p_num f_p_unknown f_p_apply f_p_part f_p_value f_p_reached f_p_reached_by f_p_chosen f_p_carry f_p_made f_p_word f_p_gets f_number_of f_part_text f_size f_part_of_words f_operand f_word_of f_check_tokens f_law_draws f_law_take f_law_word f_law_is_int f_law_op f_law_ops f_law_term_rows f_law_row_words f_law_keep f_law_short f_law_apply f_law_part f_law_asked f_law_all_made f_law_due_chosen f_law_chosen_carry f_law_lifted_told f_law_lifted_well f_law_tokens f_law_text_is f_law_read f_law_spoiled f_law_read_new f_law_written f_law_odd_letters f_law_long_texts f_law C_BadPart C_TooMany C_BadNumber C_BadWords C_BadOp a_OPS a_EITHER_WAY : Addr} {t_MOST_PARTS t_LAST_UNKNOWN t_MOST_DIGITS t_MOST_TOKENS : Tok} (X : K.In h) (G : h.Ns mainGlobals mg)
    (xa_TooMany : PySem.W.nsIn K mainGlobals "TooMany" = some (some (.ref C_TooMany)))
    (ii_TooMany : PySem.W.findIn K (.ref C_TooMany) "__init__" = some (some (.ref f_TooMany_init)))
    (it_TooMany : PySem.W.typeIn K (.ref f_TooMany_init) = some (.type "function"))
    (m_TooMany_init : ∃ fd : FuncData, Fun K "__init__" "TooMany.__init__" s_TooMany_init f_TooMany_init fd ∧ Binds K fd ["self", "name"] [])
    (xa_BadNumber : PySem.W.nsIn K mainGlobals "BadNumber" = some (some (.ref C_BadNumber)))
    (ii_BadNumber : PySem.W.findIn K (.ref C_BadNumber) "__init__" = some (some (.ref f_BadNumber_init)))
    (it_BadNumber : PySem.W.typeIn K (.ref f_BadNumber_init) = some (.type "function"))
    (m_BadNumber_init : ∃ fd : FuncData, Fun K "__init__" "BadNumber.__init__" s_BadNumber_init f_BadNumber_init fd ∧ Binds K fd ["self", "name"] [])
    (xa_BadWords : PySem.W.nsIn K mainGlobals "BadWords" = some (some (.ref C_BadWords)))
    (ii_BadWords : PySem.W.findIn K (.ref C_BadWords) "__init__" = some (some (.ref f_BadWords_init)))
    (it_BadWords : PySem.W.typeIn K (.ref f_BadWords_init) = some (.type "function"))
    (m_BadWords_init : ∃ fd : FuncData, Fun K "__init__" "BadWords.__init__" s_BadWords_init f_BadWords_init fd ∧ Binds K fd ["self", "at"] [])
    (xa_BadOp : PySem.W.nsIn K mainGlobals "BadOp" = some (some (.ref C_BadOp)))
    (ii_BadOp : PySem.W.findIn K (.ref C_BadOp) "__init__" = some (some (.ref f_BadOp_init)))
    (it_BadOp : PySem.W.typeIn K (.ref f_BadOp_init) = some (.type "function"))
    (m_BadOp_init : ∃ fd : FuncData, Fun K "__init__" "BadOp.__init__" s_BadOp_init f_BadOp_init fd ∧ Binds K fd ["self", "op"] [])
    (a_fn_op_word : PySem.W.nsIn K mainGlobals "op_word" = some (some (.ref f_op_word)))
    (m_op_word : ∃ fd : FuncData, Fun K "op_word" "op_word" s_op_word f_op_word fd ∧ Binds K fd ["name", "one", "other", "width"] [])
    (a_fn_shortened : PySem.W.nsIn K mainGlobals "shortened" = some (some (.ref f_shortened)))
    (m_shortened : ∃ fd : FuncData, Fun K "shortened" "shortened" s_shortened f_shortened fd ∧ Binds K fd ["name", "first", "second", "equal", "most"] [])
    (a_fn_shortened_and : PySem.W.nsIn K mainGlobals "shortened_and" = some (some (.ref f_shortened_and)))
    (m_shortened_and : ∃ fd : FuncData, Fun K "shortened_and" "shortened_and" s_shortened_and f_shortened_and fd ∧ Binds K fd ["first", "second", "equal", "most"] [])
    (a_fn_shortened_twice : PySem.W.nsIn K mainGlobals "shortened_twice" = some (some (.ref f_shortened_twice)))
    (m_shortened_twice : ∃ fd : FuncData, Fun K "shortened_twice" "shortened_twice" s_shortened_twice f_shortened_twice fd ∧ Binds K fd ["name"] [])
    (a_fn_is_int : PySem.W.nsIn K mainGlobals "is_int" = some (some (.ref f_is_int)))
    (m_is_int : ∃ fd : FuncData, Fun K "is_int" "is_int" s_is_int f_is_int fd ∧ Binds K fd ["value"] [])
    (a_fn_is_row : PySem.W.nsIn K mainGlobals "is_row" = some (some (.ref f_is_row)))
    (m_is_row : ∃ fd : FuncData, Fun K "is_row" "is_row" s_is_row f_is_row fd ∧ Binds K fd ["value"] [])
    (a_fn_check_int : PySem.W.nsIn K mainGlobals "check_int" = some (some (.ref f_check_int)))
    (m_check_int : ∃ fd : FuncData, Fun K "check_int" "check_int" s_check_int f_check_int fd ∧ Binds K fd ["value", "low", "high", "name"] [])
    (a_fn_ones : PySem.W.nsIn K mainGlobals "ones" = some (some (.ref f_ones)))
    (m_ones : ∃ fd : FuncData, Fun K "ones" "ones" s_ones f_ones fd ∧ Binds K fd ["width"] [])
    (a_fn_lifted : PySem.W.nsIn K mainGlobals "lifted" = some (some (.ref f_lifted)))
    (m_lifted : ∃ fd : FuncData, Fun K "lifted" "lifted" s_lifted f_lifted fd ∧ Binds K fd ["pool", "name", "one", "other", "width"] [])
    (a_fn_p_init : PySem.W.findIn K (.ref C) "__init__" = some (some (.ref f_p_init)))
    (i_p_init : PySem.W.isFn K (.ref f_p_init) = true)
    (kp_p_init : PySem.W.keepIn K (.ref f_p_init) = true)
    (m_p_init : ∃ fd : FuncData, Fun K "__init__" "Pool.__init__" s_p_init f_p_init fd ∧ Binds K fd ["self", "width"] [])
    (a_fn_p_len : PySem.W.findIn K (.ref C) "__len__" = some (some (.ref f_p_len)))
    (i_p_len : PySem.W.isFn K (.ref f_p_len) = true)
    (kp_p_len : PySem.W.keepIn K (.ref f_p_len) = true)
    (m_p_len : ∃ fd : FuncData, Fun K "__len__" "Pool.__len__" s_p_len f_p_len fd ∧ Binds K fd ["self"] [])
    (a_fn_p_iter : PySem.W.findIn K (.ref C) "__iter__" = some (some (.ref f_p_iter)))
    (i_p_iter : PySem.W.isFn K (.ref f_p_iter) = true)
    (kp_p_iter : PySem.W.keepIn K (.ref f_p_iter) = true)
    (m_p_iter : ∃ fd : FuncData, Fun K "__iter__" "Pool.__iter__" s_p_iter f_p_iter fd ∧ Binds K fd ["self"] [])
    (a_fn_p_check_part : PySem.W.findIn K (.ref C) "check_part" = some (some (.ref f_p_check_part)))
    (i_p_check_part : PySem.W.isFn K (.ref f_p_check_part) = true)
    (kp_p_check_part : PySem.W.keepIn K (.ref f_p_check_part) = true)
    (m_p_check_part : ∃ fd : FuncData, Fun K "check_part" "Pool.check_part" s_p_check_part f_p_check_part fd ∧ Binds K fd ["self", "number"] [])
    (a_fn_p_check_parts : PySem.W.findIn K (.ref C) "check_parts" = some (some (.ref f_p_check_parts)))
    (i_p_check_parts : PySem.W.isFn K (.ref f_p_check_parts) = true)
    (kp_p_check_parts : PySem.W.keepIn K (.ref f_p_check_parts) = true)
    (m_p_check_parts : ∃ fd : FuncData, Fun K "check_parts" "Pool.check_parts" s_p_check_parts f_p_check_parts fd ∧ Binds K fd ["self", "numbers"] [])
    (a_fn_p_num : PySem.W.findIn K (.ref C) "num" = some (some (.ref f_p_num)))
    (i_p_num : PySem.W.isFn K (.ref f_p_num) = true)
    (kp_p_num : PySem.W.keepIn K (.ref f_p_num) = true)
    (m_p_num : ∃ fd : FuncData, Fun K "num" "Pool.num" s_p_num f_p_num fd ∧ Binds K fd ["self", "value"] [])
    (a_fn_p_unknown : PySem.W.findIn K (.ref C) "unknown" = some (some (.ref f_p_unknown)))
    (i_p_unknown : PySem.W.isFn K (.ref f_p_unknown) = true)
    (kp_p_unknown : PySem.W.keepIn K (.ref f_p_unknown) = true)
    (m_p_unknown : ∃ fd : FuncData, Fun K "unknown" "Pool.unknown" s_p_unknown f_p_unknown fd ∧ Binds K fd ["self", "number"] [])
    (a_fn_p_apply : PySem.W.findIn K (.ref C) "apply" = some (some (.ref f_p_apply)))
    (i_p_apply : PySem.W.isFn K (.ref f_p_apply) = true)
    (kp_p_apply : PySem.W.keepIn K (.ref f_p_apply) = true)
    (m_p_apply : ∃ fd : FuncData, Fun K "apply" "Pool.apply" s_p_apply f_p_apply fd ∧ Binds K fd ["self", "name", "one", "other"] [])
    (a_fn_p_part : PySem.W.findIn K (.ref C) "part" = some (some (.ref f_p_part)))
    (i_p_part : PySem.W.isFn K (.ref f_p_part) = true)
    (kp_p_part : PySem.W.keepIn K (.ref f_p_part) = true)
    (m_p_part : ∃ fd : FuncData, Fun K "part" "Pool.part" s_p_part f_p_part fd ∧ Binds K fd ["self", "number"] [])
    (a_fn_p_value : PySem.W.findIn K (.ref C) "value" = some (some (.ref f_p_value)))
    (i_p_value : PySem.W.isFn K (.ref f_p_value) = true)
    (kp_p_value : PySem.W.keepIn K (.ref f_p_value) = true)
    (m_p_value : ∃ fd : FuncData, Fun K "value" "Pool.value" s_p_value f_p_value fd ∧ Binds K fd ["self", "number", "words"] [])
    (a_fn_p_reached : PySem.W.findIn K (.ref C) "reached" = some (some (.ref f_p_reached)))
    (i_p_reached : PySem.W.isFn K (.ref f_p_reached) = true)
    (kp_p_reached : PySem.W.keepIn K (.ref f_p_reached) = true)
    (m_p_reached : ∃ fd : FuncData, Fun K "reached" "Pool.reached" s_p_reached f_p_reached fd ∧ Binds K fd ["self", "number"] [])
    (a_fn_p_reached_by : PySem.W.findIn K (.ref C) "reached_by" = some (some (.ref f_p_reached_by)))
    (i_p_reached_by : PySem.W.isFn K (.ref f_p_reached_by) = true)
    (kp_p_reached_by : PySem.W.keepIn K (.ref f_p_reached_by) = true)
    (m_p_reached_by : ∃ fd : FuncData, Fun K "reached_by" "Pool.reached_by" s_p_reached_by f_p_reached_by fd ∧ Binds K fd ["self", "numbers"] [])
    (a_fn_p_chosen : PySem.W.findIn K (.ref C) "chosen" = some (some (.ref f_p_chosen)))
    (i_p_chosen : PySem.W.isFn K (.ref f_p_chosen) = true)
    (kp_p_chosen : PySem.W.keepIn K (.ref f_p_chosen) = true)
    (m_p_chosen : ∃ fd : FuncData, Fun K "chosen" "Pool.chosen" s_p_chosen f_p_chosen fd ∧ Binds K fd ["self", "test", "one", "other"] [])
    (a_fn_p_carry : PySem.W.findIn K (.ref C) "carry" = some (some (.ref f_p_carry)))
    (i_p_carry : PySem.W.isFn K (.ref f_p_carry) = true)
    (kp_p_carry : PySem.W.keepIn K (.ref f_p_carry) = true)
    (m_p_carry : ∃ fd : FuncData, Fun K "carry" "Pool.carry" s_p_carry f_p_carry fd ∧ Binds K fd ["self", "one", "other"] [])
    (a_fn_p_made : PySem.W.findIn K (.ref C) "_made" = some (some (.ref f_p_made)))
    (i_p_made : PySem.W.isFn K (.ref f_p_made) = true)
    (kp_p_made : PySem.W.keepIn K (.ref f_p_made) = true)
    (m_p_made : ∃ fd : FuncData, Fun K "_made" "Pool._made" s_p_made f_p_made fd ∧ Binds K fd ["self", "part"] [])
    (a_fn_p_word : PySem.W.findIn K (.ref C) "_word" = some (some (.ref f_p_word)))
    (i_p_word : PySem.W.isFn K (.ref f_p_word) = true)
    (kp_p_word : PySem.W.keepIn K (.ref f_p_word) = true)
    (m_p_word : ∃ fd : FuncData, Fun K "_word" "Pool._word" s_p_word f_p_word fd ∧ Binds K fd ["self", "number"] [])
    (a_fn_p_gets : PySem.W.findIn K (.ref C) "_gets" = some (some (.ref f_p_gets)))
    (i_p_gets : PySem.W.isFn K (.ref f_p_gets) = true)
    (kp_p_gets : PySem.W.keepIn K (.ref f_p_gets) = true)
    (m_p_gets : ∃ fd : FuncData, Fun K "_gets" "Pool._gets" s_p_gets f_p_gets fd ∧ Binds K fd ["self", "numbers"] [])
    (a_fn_number_of : PySem.W.nsIn K mainGlobals "number_of" = some (some (.ref f_number_of)))
    (m_number_of : ∃ fd : FuncData, Fun K "number_of" "number_of" s_number_of f_number_of fd ∧ Binds K fd ["token"] [])
    (a_fn_part_text : PySem.W.nsIn K mainGlobals "part_text" = some (some (.ref f_part_text)))
    (m_part_text : ∃ fd : FuncData, Fun K "part_text" "part_text" s_part_text f_part_text fd ∧ Binds K fd ["pool", "part"] [])
    (a_fn_size : PySem.W.nsIn K mainGlobals "_size" = some (some (.ref f_size)))
    (m_size : ∃ fd : FuncData, Fun K "_size" "_size" s_size f_size fd ∧ Binds K fd ["pool", "part"] [])
    (a_fn_part_of_words : PySem.W.nsIn K mainGlobals "part_of_words" = some (some (.ref f_part_of_words)))
    (m_part_of_words : ∃ fd : FuncData, Fun K "part_of_words" "part_of_words" s_part_of_words f_part_of_words fd ∧ Binds K fd ["pool", "words", "letters"] [])
    (a_fn_operand : PySem.W.nsIn K mainGlobals "_operand" = some (some (.ref f_operand)))
    (m_operand : ∃ fd : FuncData, Fun K "_operand" "_operand" s_operand f_operand fd ∧ Binds K fd ["pool", "token", "letters"] [])
    (a_fn_word_of : PySem.W.nsIn K mainGlobals "_word_of" = some (some (.ref f_word_of)))
    (m_word_of : ∃ fd : FuncData, Fun K "_word_of" "_word_of" s_word_of f_word_of fd ∧ Binds K fd ["pool", "token"] [])
    (a_fn_check_tokens : PySem.W.nsIn K mainGlobals "_check_tokens" = some (some (.ref f_check_tokens)))
    (m_check_tokens : ∃ fd : FuncData, Fun K "_check_tokens" "_check_tokens" s_check_tokens f_check_tokens fd ∧ Binds K fd ["pool", "words", "letters"] [])
    (a_fn_law_draws : PySem.W.nsIn K mainGlobals "_law_draws" = some (some (.ref f_law_draws)))
    (m_law_draws : ∃ fd : FuncData, Fun K "_law_draws" "_law_draws" s_law_draws f_law_draws fd ∧ Binds K fd ["_law_script"] [])
    (a_fn_law_take : PySem.W.nsIn K mainGlobals "_law_take" = some (some (.ref f_law_take)))
    (m_law_take : ∃ fd : FuncData, Fun K "_law_take" "_law_take" s_law_take f_law_take fd ∧ Binds K fd ["_law_draws_here", "_law_many"] [])
    (a_fn_law_word : PySem.W.nsIn K mainGlobals "_law_word" = some (some (.ref f_law_word)))
    (m_law_word : ∃ fd : FuncData, Fun K "_law_word" "_law_word" s_law_word f_law_word fd ∧ Binds K fd ["_law_draws_here", "_law_width"] [])
    (a_fn_law_is_int : PySem.W.nsIn K mainGlobals "_law_is_int" = some (some (.ref f_law_is_int)))
    (m_law_is_int : ∃ fd : FuncData, Fun K "_law_is_int" "_law_is_int" s_law_is_int f_law_is_int fd ∧ Binds K fd ["_law_thing"] [])
    (a_fn_law_op : PySem.W.nsIn K mainGlobals "_law_op" = some (some (.ref f_law_op)))
    (m_law_op : ∃ fd : FuncData, Fun K "_law_op" "_law_op" s_law_op f_law_op fd ∧ Binds K fd ["_law_name", "_law_one", "_law_other", "_law_width"] [])
    (a_fn_law_ops : PySem.W.nsIn K mainGlobals "_law_ops" = some (some (.ref f_law_ops)))
    (m_law_ops : ∃ fd : FuncData, Fun K "_law_ops" "_law_ops" s_law_ops f_law_ops fd ∧ Binds K fd [] [])
    (a_fn_law_term_rows : PySem.W.nsIn K mainGlobals "_law_term_rows" = some (some (.ref f_law_term_rows)))
    (m_law_term_rows : ∃ fd : FuncData, Fun K "_law_term_rows" "_law_term_rows" s_law_term_rows f_law_term_rows fd ∧ Binds K fd ["_law_draws_here", "_law_unknowns", "_law_width", "_law_many", "_law_plain"] [])
    (a_fn_law_row_words : PySem.W.nsIn K mainGlobals "_law_row_words" = some (some (.ref f_law_row_words)))
    (m_law_row_words : ∃ fd : FuncData, Fun K "_law_row_words" "_law_row_words" s_law_row_words f_law_row_words fd ∧ Binds K fd ["_law_rows", "_law_words", "_law_width"] [])
    (a_fn_law_keep : PySem.W.nsIn K mainGlobals "_law_keep" = some (some (.ref f_law_keep)))
    (m_law_keep : ∃ fd : FuncData, Fun K "_law_keep" "_law_keep" s_law_keep f_law_keep fd ∧ Binds K fd ["_law_parts", "_law_part_here"] [])
    (a_fn_law_short : PySem.W.nsIn K mainGlobals "_law_short" = some (some (.ref f_law_short)))
    (m_law_short : ∃ fd : FuncData, Fun K "_law_short" "_law_short" s_law_short f_law_short fd ∧ Binds K fd ["_law_parts", "_law_width", "_law_name", "_law_one", "_law_other"] [])
    (a_fn_law_apply : PySem.W.nsIn K mainGlobals "_law_apply" = some (some (.ref f_law_apply)))
    (m_law_apply : ∃ fd : FuncData, Fun K "_law_apply" "_law_apply" s_law_apply f_law_apply fd ∧ Binds K fd ["_law_parts", "_law_width", "_law_name", "_law_one", "_law_other"] [])
    (a_fn_law_part : PySem.W.nsIn K mainGlobals "_law_part" = some (some (.ref f_law_part)))
    (m_law_part : ∃ fd : FuncData, Fun K "_law_part" "_law_part" s_law_part f_law_part fd ∧ Binds K fd ["_law_parts", "_law_width", "_law_row", "_law_places"] [])
    (a_fn_law_asked : PySem.W.nsIn K mainGlobals "_law_asked" = some (some (.ref f_law_asked)))
    (m_law_asked : ∃ fd : FuncData, Fun K "_law_asked" "_law_asked" s_law_asked f_law_asked fd ∧ Binds K fd ["_law_pool", "_law_row", "_law_places"] [])
    (a_fn_law_all_made : PySem.W.nsIn K mainGlobals "_law_all_made" = some (some (.ref f_law_all_made)))
    (m_law_all_made : ∃ fd : FuncData, Fun K "_law_all_made" "_law_all_made" s_law_all_made f_law_all_made fd ∧ Binds K fd ["_law_pool", "_law_parts", "_law_width", "_law_rows"] [])
    (a_fn_law_due_chosen : PySem.W.nsIn K mainGlobals "_law_due_chosen" = some (some (.ref f_law_due_chosen)))
    (m_law_due_chosen : ∃ fd : FuncData, Fun K "_law_due_chosen" "_law_due_chosen" s_law_due_chosen f_law_due_chosen fd ∧ Binds K fd ["_law_parts", "_law_width", "_law_test", "_law_one", "_law_other"] [])
    (a_fn_law_chosen_carry : PySem.W.nsIn K mainGlobals "_law_chosen_carry" = some (some (.ref f_law_chosen_carry)))
    (m_law_chosen_carry : ∃ fd : FuncData, Fun K "_law_chosen_carry" "_law_chosen_carry" s_law_chosen_carry f_law_chosen_carry fd ∧ Binds K fd ["_law_draws_here", "_law_pool", "_law_parts", "_law_rows", "_law_places", "_law_words", "_law_width"] [])
    (a_fn_law_lifted_told : PySem.W.nsIn K mainGlobals "_law_lifted_told" = some (some (.ref f_law_lifted_told)))
    (m_law_lifted_told : ∃ fd : FuncData, Fun K "_law_lifted_told" "_law_lifted_told" s_law_lifted_told f_law_lifted_told fd ∧ Binds K fd ["_law_pool", "_law_name", "_law_one", "_law_other", "_law_width"] [])
    (a_fn_law_lifted_well : PySem.W.nsIn K mainGlobals "_law_lifted_well" = some (some (.ref f_law_lifted_well)))
    (m_law_lifted_well : ∃ fd : FuncData, Fun K "_law_lifted_well" "_law_lifted_well" s_law_lifted_well f_law_lifted_well fd ∧ Binds K fd ["_law_draws_here", "_law_rows", "_law_words", "_law_width"] [])
    (a_fn_law_tokens : PySem.W.nsIn K mainGlobals "_law_tokens" = some (some (.ref f_law_tokens)))
    (m_law_tokens : ∃ fd : FuncData, Fun K "_law_tokens" "_law_tokens" s_law_tokens f_law_tokens fd ∧ Binds K fd ["_law_parts", "_law_number"] [])
    (a_fn_law_text_is : PySem.W.nsIn K mainGlobals "_law_text_is" = some (some (.ref f_law_text_is)))
    (m_law_text_is : ∃ fd : FuncData, Fun K "_law_text_is" "_law_text_is" s_law_text_is f_law_text_is fd ∧ Binds K fd ["_law_pool", "_law_part_here", "_law_tokens_here"] [])
    (a_fn_law_read : PySem.W.nsIn K mainGlobals "_law_read" = some (some (.ref f_law_read)))
    (m_law_read : ∃ fd : FuncData, Fun K "_law_read" "_law_read" s_law_read f_law_read fd ∧ Binds K fd ["_law_pool", "_law_tokens_here", "_law_letters"] [])
    (a_fn_law_spoiled : PySem.W.nsIn K mainGlobals "_law_spoiled" = some (some (.ref f_law_spoiled)))
    (m_law_spoiled : ∃ fd : FuncData, Fun K "_law_spoiled" "_law_spoiled" s_law_spoiled f_law_spoiled fd ∧ Binds K fd ["_law_draws_here", "_law_pool", "_law_tokens_here", "_law_letters"] [])
    (a_fn_law_read_new : PySem.W.nsIn K mainGlobals "_law_read_new" = some (some (.ref f_law_read_new)))
    (m_law_read_new : ∃ fd : FuncData, Fun K "_law_read_new" "_law_read_new" s_law_read_new f_law_read_new fd ∧ Binds K fd ["_law_width", "_law_tokens_here"] [])
    (a_fn_law_written : PySem.W.nsIn K mainGlobals "_law_written" = some (some (.ref f_law_written)))
    (m_law_written : ∃ fd : FuncData, Fun K "_law_written" "_law_written" s_law_written f_law_written fd ∧ Binds K fd ["_law_draws_here", "_law_pool", "_law_parts", "_law_width"] [])
    (a_fn_law_odd_letters : PySem.W.nsIn K mainGlobals "_law_odd_letters" = some (some (.ref f_law_odd_letters)))
    (m_law_odd_letters : ∃ fd : FuncData, Fun K "_law_odd_letters" "_law_odd_letters" s_law_odd_letters f_law_odd_letters fd ∧ Binds K fd ["_law_draws_here"] [])
    (a_fn_law_long_texts : PySem.W.nsIn K mainGlobals "_law_long_texts" = some (some (.ref f_law_long_texts)))
    (m_law_long_texts : ∃ fd : FuncData, Fun K "_law_long_texts" "_law_long_texts" s_law_long_texts f_law_long_texts fd ∧ Binds K fd [] [])
    (a_fn_law : PySem.W.nsIn K mainGlobals "law" = some (some (.ref f_law)))
    {od an : Option Addr} {sl : Array (Option Value)} {oc kV dc pm cd ct : Value}
    (l_law : K.lookup f_law = some ⟨oc, od, .func (PySem.W.fnOf "law" "law" (defArgs s_law) (defBody s_law) (defScope s_law) .none kV dc pm an cd ct), sl⟩)
    (c_law : PySem.W.codeIn K cd "law" = true)
    (kp_law : PySem.W.keepIn K (.ref f_law) = true)
    (aC : PySem.W.nsIn K mainGlobals "Pool" = some (some (.ref C)))
    (pg : PySem.W.plainGet K C Str.empty = true)
    (hd_ : PySem.W.hasDictIn K C = true)
    (po : PySem.W.plainOver K C = true)
    (sa : PySem.W.findIn K (.ref C) "__setattr__" = some (some (.builtin "object.__setattr__")))
    (mkI : PySem.W.makesIn K C = true)
    (kc : PySem.W.keepIn K (.ref C) = true)
    (nA_width : PySem.W.findIn K (.ref C) "width" = some none)
    (nA__most : PySem.W.findIn K (.ref C) "_most" = some none)
    (nA__parts : PySem.W.findIn K (.ref C) "_parts" = some none)
    (nA__numbers : PySem.W.findIn K (.ref C) "_numbers" = some none)
    (ct_MOST_PARTS : PySem.W.nsIn K mainGlobals "MOST_PARTS" = some (some (.int 4000 t_MOST_PARTS)))
    (ct_LAST_UNKNOWN : PySem.W.nsIn K mainGlobals "LAST_UNKNOWN" = some (some (.int 63 t_LAST_UNKNOWN)))
    (ct_MOST_DIGITS : PySem.W.nsIn K mainGlobals "MOST_DIGITS" = some (some (.int 40 t_MOST_DIGITS)))
    (ct_MOST_TOKENS : PySem.W.nsIn K mainGlobals "MOST_TOKENS" = some (some (.int 400 t_MOST_TOKENS)))
    (ca_OPS : PySem.W.nsIn K mainGlobals "OPS" = some (some (.ref a_OPS)))
    (cv_OPS : ∀ H, SqT K H a_OPS [.str "add", .str "sub", .str "and", .str "or", .str "xor", .str "less", .str "same"])
    (ca_EITHER_WAY : PySem.W.nsIn K mainGlobals "EITHER_WAY" = some (some (.ref a_EITHER_WAY)))
    (cv_EITHER_WAY : ∀ H, SqT K H a_EITHER_WAY [.str "add", .str "and", .str "or", .str "xor", .str "same"])
    (z_len : PySem.W.nsIn K mainGlobals "len" = some none)
    (z_list : PySem.W.nsIn K mainGlobals "list" = some none)
    (z_tuple : PySem.W.nsIn K mainGlobals "tuple" = some none)
    (z_int : PySem.W.nsIn K mainGlobals "int" = some none)
    (z_str : PySem.W.nsIn K mainGlobals "str" = some none)
    (z_min : PySem.W.nsIn K mainGlobals "min" = some none)
    (z_range : PySem.W.nsIn K mainGlobals "range" = some none)
    (z_isinstance : PySem.W.nsIn K mainGlobals "isinstance" = some none)
    (z_sorted : PySem.W.nsIn K mainGlobals "sorted" = some none)
    (z_bool : PySem.W.nsIn K mainGlobals "bool" = some none)
    (z_iter : PySem.W.nsIn K mainGlobals "iter" = some none)
    (z_enumerate : PySem.W.nsIn K mainGlobals "enumerate" = some none)
    (xa_BadPart : PySem.W.nsIn K mainGlobals "BadPart" = some (some (.ref C_BadPart)))
    (xk_BadPart : PySem.W.keepIn K (.ref C_BadPart) = true)
    (xx_BadPart : PySem.W.excIn K C_BadPart [.type "Exception", .type "BaseException", .type "object"] "Exception.__new__" = true)
    (xb_BadPart : PySem.W.subIn K (.ref C_BadPart) (.type "BaseException") = some true)
    (xt_BadPart : PySem.W.typeIn K (.ref C_BadPart) = some (.type "type"))
    (xi_BadPart : PySem.W.isClsIn K C_BadPart = true)
    (xs_BadPart : PySem.W.subIn K (.ref C_BadPart) (.ref C_BadPart) = some true)
    (xe_TooMany : PySem.W.excInitIn K C_TooMany [.type "Exception", .type "BaseException", .type "object"] "Exception.__new__" = true)
    (xsa_TooMany : PySem.W.findIn K (.ref C_TooMany) "__setattr__" = some (some (.builtin "object.__setattr__")))
    (xk_TooMany : PySem.W.keepIn K (.ref C_TooMany) = true)
    (xb_TooMany : PySem.W.subIn K (.ref C_TooMany) (.type "BaseException") = some true)
    (xt_TooMany : PySem.W.typeIn K (.ref C_TooMany) = some (.type "type"))
    (xi_TooMany : PySem.W.isClsIn K C_TooMany = true)
    (xs_TooMany : PySem.W.subIn K (.ref C_TooMany) (.ref C_TooMany) = some true)
    (xhd_TooMany : PySem.W.hasDictIn K C_TooMany = true)
    (xga_TooMany : PySem.W.findIn K (.ref C_TooMany) "__getattribute__" = some (some (.builtin "BaseException.__getattribute__")))
    (xgg_TooMany : PySem.W.findIn K (.ref C_TooMany) "__getattr__" = some none)
    (xnf_TooMany : PySem.W.findIn K (.ref C_TooMany) "name" = some none)
    (xe_BadNumber : PySem.W.excInitIn K C_BadNumber [.type "Exception", .type "BaseException", .type "object"] "Exception.__new__" = true)
    (xsa_BadNumber : PySem.W.findIn K (.ref C_BadNumber) "__setattr__" = some (some (.builtin "object.__setattr__")))
    (xk_BadNumber : PySem.W.keepIn K (.ref C_BadNumber) = true)
    (xb_BadNumber : PySem.W.subIn K (.ref C_BadNumber) (.type "BaseException") = some true)
    (xt_BadNumber : PySem.W.typeIn K (.ref C_BadNumber) = some (.type "type"))
    (xi_BadNumber : PySem.W.isClsIn K C_BadNumber = true)
    (xs_BadNumber : PySem.W.subIn K (.ref C_BadNumber) (.ref C_BadNumber) = some true)
    (xhd_BadNumber : PySem.W.hasDictIn K C_BadNumber = true)
    (xga_BadNumber : PySem.W.findIn K (.ref C_BadNumber) "__getattribute__" = some (some (.builtin "BaseException.__getattribute__")))
    (xgg_BadNumber : PySem.W.findIn K (.ref C_BadNumber) "__getattr__" = some none)
    (xnf_BadNumber : PySem.W.findIn K (.ref C_BadNumber) "name" = some none)
    (xe_BadWords : PySem.W.excInitIn K C_BadWords [.type "Exception", .type "BaseException", .type "object"] "Exception.__new__" = true)
    (xsa_BadWords : PySem.W.findIn K (.ref C_BadWords) "__setattr__" = some (some (.builtin "object.__setattr__")))
    (xk_BadWords : PySem.W.keepIn K (.ref C_BadWords) = true)
    (xb_BadWords : PySem.W.subIn K (.ref C_BadWords) (.type "BaseException") = some true)
    (xt_BadWords : PySem.W.typeIn K (.ref C_BadWords) = some (.type "type"))
    (xi_BadWords : PySem.W.isClsIn K C_BadWords = true)
    (xs_BadWords : PySem.W.subIn K (.ref C_BadWords) (.ref C_BadWords) = some true)
    (xhd_BadWords : PySem.W.hasDictIn K C_BadWords = true)
    (xga_BadWords : PySem.W.findIn K (.ref C_BadWords) "__getattribute__" = some (some (.builtin "BaseException.__getattribute__")))
    (xgg_BadWords : PySem.W.findIn K (.ref C_BadWords) "__getattr__" = some none)
    (xnf_BadWords : PySem.W.findIn K (.ref C_BadWords) "at" = some none)
    (xe_BadOp : PySem.W.excInitIn K C_BadOp [.type "Exception", .type "BaseException", .type "object"] "Exception.__new__" = true)
    (xsa_BadOp : PySem.W.findIn K (.ref C_BadOp) "__setattr__" = some (some (.builtin "object.__setattr__")))
    (xk_BadOp : PySem.W.keepIn K (.ref C_BadOp) = true)
    (xb_BadOp : PySem.W.subIn K (.ref C_BadOp) (.type "BaseException") = some true)
    (xt_BadOp : PySem.W.typeIn K (.ref C_BadOp) = some (.type "type"))
    (xi_BadOp : PySem.W.isClsIn K C_BadOp = true)
    (xs_BadOp : PySem.W.subIn K (.ref C_BadOp) (.ref C_BadOp) = some true)
    (xhd_BadOp : PySem.W.hasDictIn K C_BadOp = true)
    (xga_BadOp : PySem.W.findIn K (.ref C_BadOp) "__getattribute__" = some (some (.builtin "BaseException.__getattribute__")))
    (xgg_BadOp : PySem.W.findIn K (.ref C_BadOp) "__getattr__" = some none)
    (xnf_BadOp : PySem.W.findIn K (.ref C_BadOp) "op" = some none)
    (xno_BadPart_BadOp : PySem.W.subIn K (.ref C_BadPart) (.ref C_BadOp) = some false)
    (xno_BadNumber_BadOp : PySem.W.subIn K (.ref C_BadNumber) (.ref C_BadOp) = some false)
    (xno_BadNumber_BadPart : PySem.W.subIn K (.ref C_BadNumber) (.ref C_BadPart) = some false)
    : ∃ T : Txt K mg, T.f_law = f_law ∧ T.fd_law = PySem.W.fnOf "law" "law" (defArgs s_law) (defBody s_law) (defScope s_law) .none kV dc pm an cd ct := by
  obtain ⟨fd_TooMany_init, F_TooMany_init, b_TooMany_init⟩ := m_TooMany_init
  obtain ⟨fd_BadNumber_init, F_BadNumber_init, b_BadNumber_init⟩ := m_BadNumber_init
  obtain ⟨fd_BadWords_init, F_BadWords_init, b_BadWords_init⟩ := m_BadWords_init
  obtain ⟨fd_BadOp_init, F_BadOp_init, b_BadOp_init⟩ := m_BadOp_init
  obtain ⟨fd_op_word, F_op_word, b_op_word⟩ := m_op_word
  obtain ⟨fd_shortened, F_shortened, b_shortened⟩ := m_shortened
  obtain ⟨fd_shortened_and, F_shortened_and, b_shortened_and⟩ := m_shortened_and
  obtain ⟨fd_shortened_twice, F_shortened_twice, b_shortened_twice⟩ := m_shortened_twice
  obtain ⟨fd_is_int, F_is_int, b_is_int⟩ := m_is_int
  obtain ⟨fd_is_row, F_is_row, b_is_row⟩ := m_is_row
  obtain ⟨fd_check_int, F_check_int, b_check_int⟩ := m_check_int
  obtain ⟨fd_ones, F_ones, b_ones⟩ := m_ones
  obtain ⟨fd_lifted, F_lifted, b_lifted⟩ := m_lifted
  obtain ⟨fd_p_init, F_p_init, b_p_init⟩ := m_p_init
  obtain ⟨fd_p_len, F_p_len, b_p_len⟩ := m_p_len
  obtain ⟨fd_p_iter, F_p_iter, b_p_iter⟩ := m_p_iter
  obtain ⟨fd_p_check_part, F_p_check_part, b_p_check_part⟩ := m_p_check_part
  obtain ⟨fd_p_check_parts, F_p_check_parts, b_p_check_parts⟩ := m_p_check_parts
  obtain ⟨fd_p_num, F_p_num, b_p_num⟩ := m_p_num
  obtain ⟨fd_p_unknown, F_p_unknown, b_p_unknown⟩ := m_p_unknown
  obtain ⟨fd_p_apply, F_p_apply, b_p_apply⟩ := m_p_apply
  obtain ⟨fd_p_part, F_p_part, b_p_part⟩ := m_p_part
  obtain ⟨fd_p_value, F_p_value, b_p_value⟩ := m_p_value
  obtain ⟨fd_p_reached, F_p_reached, b_p_reached⟩ := m_p_reached
  obtain ⟨fd_p_reached_by, F_p_reached_by, b_p_reached_by⟩ := m_p_reached_by
  obtain ⟨fd_p_chosen, F_p_chosen, b_p_chosen⟩ := m_p_chosen
  obtain ⟨fd_p_carry, F_p_carry, b_p_carry⟩ := m_p_carry
  obtain ⟨fd_p_made, F_p_made, b_p_made⟩ := m_p_made
  obtain ⟨fd_p_word, F_p_word, b_p_word⟩ := m_p_word
  obtain ⟨fd_p_gets, F_p_gets, b_p_gets⟩ := m_p_gets
  obtain ⟨fd_number_of, F_number_of, b_number_of⟩ := m_number_of
  obtain ⟨fd_part_text, F_part_text, b_part_text⟩ := m_part_text
  obtain ⟨fd_size, F_size, b_size⟩ := m_size
  obtain ⟨fd_part_of_words, F_part_of_words, b_part_of_words⟩ := m_part_of_words
  obtain ⟨fd_operand, F_operand, b_operand⟩ := m_operand
  obtain ⟨fd_word_of, F_word_of, b_word_of⟩ := m_word_of
  obtain ⟨fd_check_tokens, F_check_tokens, b_check_tokens⟩ := m_check_tokens
  obtain ⟨fd_law_draws, F_law_draws, b_law_draws⟩ := m_law_draws
  obtain ⟨fd_law_take, F_law_take, b_law_take⟩ := m_law_take
  obtain ⟨fd_law_word, F_law_word, b_law_word⟩ := m_law_word
  obtain ⟨fd_law_is_int, F_law_is_int, b_law_is_int⟩ := m_law_is_int
  obtain ⟨fd_law_op, F_law_op, b_law_op⟩ := m_law_op
  obtain ⟨fd_law_ops, F_law_ops, b_law_ops⟩ := m_law_ops
  obtain ⟨fd_law_term_rows, F_law_term_rows, b_law_term_rows⟩ := m_law_term_rows
  obtain ⟨fd_law_row_words, F_law_row_words, b_law_row_words⟩ := m_law_row_words
  obtain ⟨fd_law_keep, F_law_keep, b_law_keep⟩ := m_law_keep
  obtain ⟨fd_law_short, F_law_short, b_law_short⟩ := m_law_short
  obtain ⟨fd_law_apply, F_law_apply, b_law_apply⟩ := m_law_apply
  obtain ⟨fd_law_part, F_law_part, b_law_part⟩ := m_law_part
  obtain ⟨fd_law_asked, F_law_asked, b_law_asked⟩ := m_law_asked
  obtain ⟨fd_law_all_made, F_law_all_made, b_law_all_made⟩ := m_law_all_made
  obtain ⟨fd_law_due_chosen, F_law_due_chosen, b_law_due_chosen⟩ := m_law_due_chosen
  obtain ⟨fd_law_chosen_carry, F_law_chosen_carry, b_law_chosen_carry⟩ := m_law_chosen_carry
  obtain ⟨fd_law_lifted_told, F_law_lifted_told, b_law_lifted_told⟩ := m_law_lifted_told
  obtain ⟨fd_law_lifted_well, F_law_lifted_well, b_law_lifted_well⟩ := m_law_lifted_well
  obtain ⟨fd_law_tokens, F_law_tokens, b_law_tokens⟩ := m_law_tokens
  obtain ⟨fd_law_text_is, F_law_text_is, b_law_text_is⟩ := m_law_text_is
  obtain ⟨fd_law_read, F_law_read, b_law_read⟩ := m_law_read
  obtain ⟨fd_law_spoiled, F_law_spoiled, b_law_spoiled⟩ := m_law_spoiled
  obtain ⟨fd_law_read_new, F_law_read_new, b_law_read_new⟩ := m_law_read_new
  obtain ⟨fd_law_written, F_law_written, b_law_written⟩ := m_law_written
  obtain ⟨fd_law_odd_letters, F_law_odd_letters, b_law_odd_letters⟩ := m_law_odd_letters
  obtain ⟨fd_law_long_texts, F_law_long_texts, b_law_long_texts⟩ := m_law_long_texts
  have F_law := fun_mk (st := s_law) l_law c_law kp_law
  refine ⟨{
    f_TooMany_init := f_TooMany_init,
    fd_TooMany_init := fd_TooMany_init,
    F_TooMany_init := F_TooMany_init,
    b_TooMany_init := b_TooMany_init,
    f_BadNumber_init := f_BadNumber_init,
    fd_BadNumber_init := fd_BadNumber_init,
    F_BadNumber_init := F_BadNumber_init,
    b_BadNumber_init := b_BadNumber_init,
    f_BadWords_init := f_BadWords_init,
    fd_BadWords_init := fd_BadWords_init,
    F_BadWords_init := F_BadWords_init,
    b_BadWords_init := b_BadWords_init,
    f_BadOp_init := f_BadOp_init,
    fd_BadOp_init := fd_BadOp_init,
    F_BadOp_init := F_BadOp_init,
    b_BadOp_init := b_BadOp_init,
    f_op_word := f_op_word,
    fd_op_word := fd_op_word,
    F_op_word := F_op_word,
    b_op_word := b_op_word,
    g_op_word := PySem.W.mg_of X G a_fn_op_word,
    f_shortened := f_shortened,
    fd_shortened := fd_shortened,
    F_shortened := F_shortened,
    b_shortened := b_shortened,
    g_shortened := PySem.W.mg_of X G a_fn_shortened,
    f_shortened_and := f_shortened_and,
    fd_shortened_and := fd_shortened_and,
    F_shortened_and := F_shortened_and,
    b_shortened_and := b_shortened_and,
    g_shortened_and := PySem.W.mg_of X G a_fn_shortened_and,
    f_shortened_twice := f_shortened_twice,
    fd_shortened_twice := fd_shortened_twice,
    F_shortened_twice := F_shortened_twice,
    b_shortened_twice := b_shortened_twice,
    g_shortened_twice := PySem.W.mg_of X G a_fn_shortened_twice,
    f_is_int := f_is_int,
    fd_is_int := fd_is_int,
    F_is_int := F_is_int,
    b_is_int := b_is_int,
    g_is_int := PySem.W.mg_of X G a_fn_is_int,
    f_is_row := f_is_row,
    fd_is_row := fd_is_row,
    F_is_row := F_is_row,
    b_is_row := b_is_row,
    g_is_row := PySem.W.mg_of X G a_fn_is_row,
    f_check_int := f_check_int,
    fd_check_int := fd_check_int,
    F_check_int := F_check_int,
    b_check_int := b_check_int,
    g_check_int := PySem.W.mg_of X G a_fn_check_int,
    f_ones := f_ones,
    fd_ones := fd_ones,
    F_ones := F_ones,
    b_ones := b_ones,
    g_ones := PySem.W.mg_of X G a_fn_ones,
    f_lifted := f_lifted,
    fd_lifted := fd_lifted,
    F_lifted := F_lifted,
    b_lifted := b_lifted,
    g_lifted := PySem.W.mg_of X G a_fn_lifted,
    f_p_init := f_p_init,
    fd_p_init := fd_p_init,
    F_p_init := F_p_init,
    b_p_init := b_p_init,
    m_p_init := ⟨a_fn_p_init, i_p_init, kp_p_init⟩,
    f_p_len := f_p_len,
    fd_p_len := fd_p_len,
    F_p_len := F_p_len,
    b_p_len := b_p_len,
    m_p_len := ⟨a_fn_p_len, i_p_len, kp_p_len⟩,
    f_p_iter := f_p_iter,
    fd_p_iter := fd_p_iter,
    F_p_iter := F_p_iter,
    b_p_iter := b_p_iter,
    m_p_iter := ⟨a_fn_p_iter, i_p_iter, kp_p_iter⟩,
    f_p_check_part := f_p_check_part,
    fd_p_check_part := fd_p_check_part,
    F_p_check_part := F_p_check_part,
    b_p_check_part := b_p_check_part,
    m_p_check_part := ⟨a_fn_p_check_part, i_p_check_part, kp_p_check_part⟩,
    f_p_check_parts := f_p_check_parts,
    fd_p_check_parts := fd_p_check_parts,
    F_p_check_parts := F_p_check_parts,
    b_p_check_parts := b_p_check_parts,
    m_p_check_parts := ⟨a_fn_p_check_parts, i_p_check_parts, kp_p_check_parts⟩,
    f_p_num := f_p_num,
    fd_p_num := fd_p_num,
    F_p_num := F_p_num,
    b_p_num := b_p_num,
    m_p_num := ⟨a_fn_p_num, i_p_num, kp_p_num⟩,
    f_p_unknown := f_p_unknown,
    fd_p_unknown := fd_p_unknown,
    F_p_unknown := F_p_unknown,
    b_p_unknown := b_p_unknown,
    m_p_unknown := ⟨a_fn_p_unknown, i_p_unknown, kp_p_unknown⟩,
    f_p_apply := f_p_apply,
    fd_p_apply := fd_p_apply,
    F_p_apply := F_p_apply,
    b_p_apply := b_p_apply,
    m_p_apply := ⟨a_fn_p_apply, i_p_apply, kp_p_apply⟩,
    f_p_part := f_p_part,
    fd_p_part := fd_p_part,
    F_p_part := F_p_part,
    b_p_part := b_p_part,
    m_p_part := ⟨a_fn_p_part, i_p_part, kp_p_part⟩,
    f_p_value := f_p_value,
    fd_p_value := fd_p_value,
    F_p_value := F_p_value,
    b_p_value := b_p_value,
    m_p_value := ⟨a_fn_p_value, i_p_value, kp_p_value⟩,
    f_p_reached := f_p_reached,
    fd_p_reached := fd_p_reached,
    F_p_reached := F_p_reached,
    b_p_reached := b_p_reached,
    m_p_reached := ⟨a_fn_p_reached, i_p_reached, kp_p_reached⟩,
    f_p_reached_by := f_p_reached_by,
    fd_p_reached_by := fd_p_reached_by,
    F_p_reached_by := F_p_reached_by,
    b_p_reached_by := b_p_reached_by,
    m_p_reached_by := ⟨a_fn_p_reached_by, i_p_reached_by, kp_p_reached_by⟩,
    f_p_chosen := f_p_chosen,
    fd_p_chosen := fd_p_chosen,
    F_p_chosen := F_p_chosen,
    b_p_chosen := b_p_chosen,
    m_p_chosen := ⟨a_fn_p_chosen, i_p_chosen, kp_p_chosen⟩,
    f_p_carry := f_p_carry,
    fd_p_carry := fd_p_carry,
    F_p_carry := F_p_carry,
    b_p_carry := b_p_carry,
    m_p_carry := ⟨a_fn_p_carry, i_p_carry, kp_p_carry⟩,
    f_p_made := f_p_made,
    fd_p_made := fd_p_made,
    F_p_made := F_p_made,
    b_p_made := b_p_made,
    m_p_made := ⟨a_fn_p_made, i_p_made, kp_p_made⟩,
    f_p_word := f_p_word,
    fd_p_word := fd_p_word,
    F_p_word := F_p_word,
    b_p_word := b_p_word,
    m_p_word := ⟨a_fn_p_word, i_p_word, kp_p_word⟩,
    f_p_gets := f_p_gets,
    fd_p_gets := fd_p_gets,
    F_p_gets := F_p_gets,
    b_p_gets := b_p_gets,
    m_p_gets := ⟨a_fn_p_gets, i_p_gets, kp_p_gets⟩,
    f_number_of := f_number_of,
    fd_number_of := fd_number_of,
    F_number_of := F_number_of,
    b_number_of := b_number_of,
    g_number_of := PySem.W.mg_of X G a_fn_number_of,
    f_part_text := f_part_text,
    fd_part_text := fd_part_text,
    F_part_text := F_part_text,
    b_part_text := b_part_text,
    g_part_text := PySem.W.mg_of X G a_fn_part_text,
    f_size := f_size,
    fd_size := fd_size,
    F_size := F_size,
    b_size := b_size,
    g_size := PySem.W.mg_of X G a_fn_size,
    f_part_of_words := f_part_of_words,
    fd_part_of_words := fd_part_of_words,
    F_part_of_words := F_part_of_words,
    b_part_of_words := b_part_of_words,
    g_part_of_words := PySem.W.mg_of X G a_fn_part_of_words,
    f_operand := f_operand,
    fd_operand := fd_operand,
    F_operand := F_operand,
    b_operand := b_operand,
    g_operand := PySem.W.mg_of X G a_fn_operand,
    f_word_of := f_word_of,
    fd_word_of := fd_word_of,
    F_word_of := F_word_of,
    b_word_of := b_word_of,
    g_word_of := PySem.W.mg_of X G a_fn_word_of,
    f_check_tokens := f_check_tokens,
    fd_check_tokens := fd_check_tokens,
    F_check_tokens := F_check_tokens,
    b_check_tokens := b_check_tokens,
    g_check_tokens := PySem.W.mg_of X G a_fn_check_tokens,
    f_law_draws := f_law_draws,
    fd_law_draws := fd_law_draws,
    F_law_draws := F_law_draws,
    b_law_draws := b_law_draws,
    g_law_draws := PySem.W.mg_of X G a_fn_law_draws,
    f_law_take := f_law_take,
    fd_law_take := fd_law_take,
    F_law_take := F_law_take,
    b_law_take := b_law_take,
    g_law_take := PySem.W.mg_of X G a_fn_law_take,
    f_law_word := f_law_word,
    fd_law_word := fd_law_word,
    F_law_word := F_law_word,
    b_law_word := b_law_word,
    g_law_word := PySem.W.mg_of X G a_fn_law_word,
    f_law_is_int := f_law_is_int,
    fd_law_is_int := fd_law_is_int,
    F_law_is_int := F_law_is_int,
    b_law_is_int := b_law_is_int,
    g_law_is_int := PySem.W.mg_of X G a_fn_law_is_int,
    f_law_op := f_law_op,
    fd_law_op := fd_law_op,
    F_law_op := F_law_op,
    b_law_op := b_law_op,
    g_law_op := PySem.W.mg_of X G a_fn_law_op,
    f_law_ops := f_law_ops,
    fd_law_ops := fd_law_ops,
    F_law_ops := F_law_ops,
    b_law_ops := b_law_ops,
    g_law_ops := PySem.W.mg_of X G a_fn_law_ops,
    f_law_term_rows := f_law_term_rows,
    fd_law_term_rows := fd_law_term_rows,
    F_law_term_rows := F_law_term_rows,
    b_law_term_rows := b_law_term_rows,
    g_law_term_rows := PySem.W.mg_of X G a_fn_law_term_rows,
    f_law_row_words := f_law_row_words,
    fd_law_row_words := fd_law_row_words,
    F_law_row_words := F_law_row_words,
    b_law_row_words := b_law_row_words,
    g_law_row_words := PySem.W.mg_of X G a_fn_law_row_words,
    f_law_keep := f_law_keep,
    fd_law_keep := fd_law_keep,
    F_law_keep := F_law_keep,
    b_law_keep := b_law_keep,
    g_law_keep := PySem.W.mg_of X G a_fn_law_keep,
    f_law_short := f_law_short,
    fd_law_short := fd_law_short,
    F_law_short := F_law_short,
    b_law_short := b_law_short,
    g_law_short := PySem.W.mg_of X G a_fn_law_short,
    f_law_apply := f_law_apply,
    fd_law_apply := fd_law_apply,
    F_law_apply := F_law_apply,
    b_law_apply := b_law_apply,
    g_law_apply := PySem.W.mg_of X G a_fn_law_apply,
    f_law_part := f_law_part,
    fd_law_part := fd_law_part,
    F_law_part := F_law_part,
    b_law_part := b_law_part,
    g_law_part := PySem.W.mg_of X G a_fn_law_part,
    f_law_asked := f_law_asked,
    fd_law_asked := fd_law_asked,
    F_law_asked := F_law_asked,
    b_law_asked := b_law_asked,
    g_law_asked := PySem.W.mg_of X G a_fn_law_asked,
    f_law_all_made := f_law_all_made,
    fd_law_all_made := fd_law_all_made,
    F_law_all_made := F_law_all_made,
    b_law_all_made := b_law_all_made,
    g_law_all_made := PySem.W.mg_of X G a_fn_law_all_made,
    f_law_due_chosen := f_law_due_chosen,
    fd_law_due_chosen := fd_law_due_chosen,
    F_law_due_chosen := F_law_due_chosen,
    b_law_due_chosen := b_law_due_chosen,
    g_law_due_chosen := PySem.W.mg_of X G a_fn_law_due_chosen,
    f_law_chosen_carry := f_law_chosen_carry,
    fd_law_chosen_carry := fd_law_chosen_carry,
    F_law_chosen_carry := F_law_chosen_carry,
    b_law_chosen_carry := b_law_chosen_carry,
    g_law_chosen_carry := PySem.W.mg_of X G a_fn_law_chosen_carry,
    f_law_lifted_told := f_law_lifted_told,
    fd_law_lifted_told := fd_law_lifted_told,
    F_law_lifted_told := F_law_lifted_told,
    b_law_lifted_told := b_law_lifted_told,
    g_law_lifted_told := PySem.W.mg_of X G a_fn_law_lifted_told,
    f_law_lifted_well := f_law_lifted_well,
    fd_law_lifted_well := fd_law_lifted_well,
    F_law_lifted_well := F_law_lifted_well,
    b_law_lifted_well := b_law_lifted_well,
    g_law_lifted_well := PySem.W.mg_of X G a_fn_law_lifted_well,
    f_law_tokens := f_law_tokens,
    fd_law_tokens := fd_law_tokens,
    F_law_tokens := F_law_tokens,
    b_law_tokens := b_law_tokens,
    g_law_tokens := PySem.W.mg_of X G a_fn_law_tokens,
    f_law_text_is := f_law_text_is,
    fd_law_text_is := fd_law_text_is,
    F_law_text_is := F_law_text_is,
    b_law_text_is := b_law_text_is,
    g_law_text_is := PySem.W.mg_of X G a_fn_law_text_is,
    f_law_read := f_law_read,
    fd_law_read := fd_law_read,
    F_law_read := F_law_read,
    b_law_read := b_law_read,
    g_law_read := PySem.W.mg_of X G a_fn_law_read,
    f_law_spoiled := f_law_spoiled,
    fd_law_spoiled := fd_law_spoiled,
    F_law_spoiled := F_law_spoiled,
    b_law_spoiled := b_law_spoiled,
    g_law_spoiled := PySem.W.mg_of X G a_fn_law_spoiled,
    f_law_read_new := f_law_read_new,
    fd_law_read_new := fd_law_read_new,
    F_law_read_new := F_law_read_new,
    b_law_read_new := b_law_read_new,
    g_law_read_new := PySem.W.mg_of X G a_fn_law_read_new,
    f_law_written := f_law_written,
    fd_law_written := fd_law_written,
    F_law_written := F_law_written,
    b_law_written := b_law_written,
    g_law_written := PySem.W.mg_of X G a_fn_law_written,
    f_law_odd_letters := f_law_odd_letters,
    fd_law_odd_letters := fd_law_odd_letters,
    F_law_odd_letters := F_law_odd_letters,
    b_law_odd_letters := b_law_odd_letters,
    g_law_odd_letters := PySem.W.mg_of X G a_fn_law_odd_letters,
    f_law_long_texts := f_law_long_texts,
    fd_law_long_texts := fd_law_long_texts,
    F_law_long_texts := F_law_long_texts,
    b_law_long_texts := b_law_long_texts,
    g_law_long_texts := PySem.W.mg_of X G a_fn_law_long_texts,
    f_law := f_law,
    fd_law := _,
    F_law := F_law,
    b_law := F_law.binds (ps := ["_law_script"]) fun _ _ _ _ _ _ us hl => match us, hl with | [_], _ => rfl,
    g_law := PySem.W.mg_of X G a_fn_law,
    C := C,
    cl := ⟨pg, hd_, po, sa⟩,
    g_Pool := PySem.W.mg_of X G aC,
    M_Pool := ⟨mkI, a_fn_p_init, i_p_init, kc⟩,
    nA_width := nA_width,
    nA__most := nA__most,
    nA__parts := nA__parts,
    nA__numbers := nA__numbers,
    t_MOST_PARTS := t_MOST_PARTS,
    c_MOST_PARTS := PySem.W.mg_of X G ct_MOST_PARTS,
    t_LAST_UNKNOWN := t_LAST_UNKNOWN,
    c_LAST_UNKNOWN := PySem.W.mg_of X G ct_LAST_UNKNOWN,
    t_MOST_DIGITS := t_MOST_DIGITS,
    c_MOST_DIGITS := PySem.W.mg_of X G ct_MOST_DIGITS,
    t_MOST_TOKENS := t_MOST_TOKENS,
    c_MOST_TOKENS := PySem.W.mg_of X G ct_MOST_TOKENS,
    a_OPS := a_OPS,
    c_OPS := PySem.W.mg_of X G ca_OPS,
    v_OPS := cv_OPS,
    a_EITHER_WAY := a_EITHER_WAY,
    c_EITHER_WAY := PySem.W.mg_of X G ca_EITHER_WAY,
    v_EITHER_WAY := cv_EITHER_WAY,
    n_len := PySem.W.mg_none_of X G z_len,
    n_list := PySem.W.mg_none_of X G z_list,
    n_tuple := PySem.W.mg_none_of X G z_tuple,
    n_int := PySem.W.mg_none_of X G z_int,
    n_str := PySem.W.mg_none_of X G z_str,
    n_min := PySem.W.mg_none_of X G z_min,
    n_range := PySem.W.mg_none_of X G z_range,
    n_isinstance := PySem.W.mg_none_of X G z_isinstance,
    n_sorted := PySem.W.mg_none_of X G z_sorted,
    n_bool := PySem.W.mg_none_of X G z_bool,
    n_iter := PySem.W.mg_none_of X G z_iter,
    n_enumerate := PySem.W.mg_none_of X G z_enumerate,
    C_BadPart := C_BadPart,
    g_BadPart := PySem.W.mg_of X G xa_BadPart,
    k_BadPart := xk_BadPart,
    x_BadPart := xx_BadPart,
    sb_BadPart := xb_BadPart,
    ty_BadPart := xt_BadPart,
    te_BadPart := exm_own xb_BadPart xi_BadPart xt_BadPart xs_BadPart,
    C_TooMany := C_TooMany,
    g_TooMany := PySem.W.mg_of X G xa_TooMany,
    o_TooMany := oexE_of xe_TooMany xhd_TooMany xsa_TooMany xb_TooMany xt_TooMany xk_TooMany,
    ii_TooMany := ii_TooMany,
    it_TooMany := it_TooMany,
    xf_TooMany := ⟨xga_TooMany, xgg_TooMany, xb_TooMany, xhd_TooMany⟩,
    nf_TooMany := xnf_TooMany,
    te_TooMany := exm_own xb_TooMany xi_TooMany xt_TooMany xs_TooMany,
    C_BadNumber := C_BadNumber,
    g_BadNumber := PySem.W.mg_of X G xa_BadNumber,
    o_BadNumber := oexE_of xe_BadNumber xhd_BadNumber xsa_BadNumber xb_BadNumber xt_BadNumber xk_BadNumber,
    ii_BadNumber := ii_BadNumber,
    it_BadNumber := it_BadNumber,
    xf_BadNumber := ⟨xga_BadNumber, xgg_BadNumber, xb_BadNumber, xhd_BadNumber⟩,
    nf_BadNumber := xnf_BadNumber,
    te_BadNumber := exm_own xb_BadNumber xi_BadNumber xt_BadNumber xs_BadNumber,
    C_BadWords := C_BadWords,
    g_BadWords := PySem.W.mg_of X G xa_BadWords,
    o_BadWords := oexE_of xe_BadWords xhd_BadWords xsa_BadWords xb_BadWords xt_BadWords xk_BadWords,
    ii_BadWords := ii_BadWords,
    it_BadWords := it_BadWords,
    xf_BadWords := ⟨xga_BadWords, xgg_BadWords, xb_BadWords, xhd_BadWords⟩,
    nf_BadWords := xnf_BadWords,
    te_BadWords := exm_own xb_BadWords xi_BadWords xt_BadWords xs_BadWords,
    C_BadOp := C_BadOp,
    g_BadOp := PySem.W.mg_of X G xa_BadOp,
    o_BadOp := oexE_of xe_BadOp xhd_BadOp xsa_BadOp xb_BadOp xt_BadOp xk_BadOp,
    ii_BadOp := ii_BadOp,
    it_BadOp := it_BadOp,
    xf_BadOp := ⟨xga_BadOp, xgg_BadOp, xb_BadOp, xhd_BadOp⟩,
    nf_BadOp := xnf_BadOp,
    te_BadOp := exm_own xb_BadOp xi_BadOp xt_BadOp xs_BadOp,
    tf_BadPart_BadOp := exm_two xb_BadOp xi_BadOp xt_BadOp xno_BadPart_BadOp,
    tf_BadNumber_BadOp := exm_two xb_BadOp xi_BadOp xt_BadOp xno_BadNumber_BadOp,
    tf_BadNumber_BadPart := exm_two xb_BadPart xi_BadPart xt_BadPart xno_BadNumber_BadPart }, rfl, rfl⟩
def spL (K : PySem.W.Frag) : Sp := fun vs H Q _ => ∃ (a : Addr) (xs : List Int), vs = [.ref a] ∧ SqL K H a (xs.map V.int) ∧ xs.length ≤ 63 ∧ ∀ H', Q (.bl true) H'
theorem walk {l : PySem.W.OpenLaw} {q : Program} {loose : List Str} {XP : (Str → Option Value) → Heap → Prop} {YP : World → Heap → Prop} {d : DefRec} {K : Params → PySem.W.Frag} (hn : l.most = some 63) (hdf : d.params.defaults = [])
    (hY : ∀ (w : World) (h : Heap), YP w h → (K w.params).In h)
    (F : ∀ (w : World) (mg : Str → Option Value) (fa : Addr) (h : Heap), (K w.params).In h → h.Ns mainGlobals mg → mg d.name = some (.ref fa) →
      ∃ fd : FuncData, (∀ (s : Shared) (u : Value), BindsTo s fd ⟨[u], []⟩ [("_law_script", u)]) ∧ ∀ base : Heap, (K w.params).In base → base.Ns mainGlobals mg → FnOk l.prog w (K w.params) mg base CX0 11 fa fd ["_law_script"] (spL (K w.params))) :
    PySem.W.WalkO q loose XP YP l.row.toRowW d [] (fun f vs => PySem.call f vs) :=
  L2.walk_of (n := 63) (k := 11) (x := "_law_script") (CX := fun _ => CX0) (sp := fun w => spL (K w.params)) hn (by decide) hdf ⟨rfl, by decide, by decide⟩ hY F (fun _ _ a ns hl _ hS => ⟨a, ns, rfl, hS, hl, fun _ => rfl⟩) fun _ _ _ _ _ z => z
/-- the law by what the top has left -/
theorem law_of {P : Program} {w : World} {K : PySem.W.Frag} {mg : Str → Option Value} {fa fl : Addr} {an : Option Addr} {kV dc pm cd ct : Value} (hfa : mg "law" = some (.ref fa))
    (h : ∃ T : Txt K mg, T.f_law = fl ∧ T.fd_law = PySem.W.fnOf "law" "law" (defArgs s_law) (defBody s_law) (defScope s_law) .none kV dc pm an cd ct) :
    ∃ fd : FuncData, (∀ (s : Shared) (u : Value), BindsTo s fd ⟨[u], []⟩ [("_law_script", u)]) ∧ ∀ base : Heap, K.In base → base.Ns mainGlobals mg → FnOk P w K mg base CX0 11 fa fd ["_law_script"] (spL K) := by
  obtain ⟨T, e1, e2⟩ := h
  have e := hfa.symm.trans T.g_law
  cases e
  refine ⟨T.fd_law, fun s v => by rw [e2]; exact .of_eq rfl, fun base _ _ => ?_⟩
  exact ok_law (P := P) (w := w) (base := base) T
end My

open PySem PySem.W PyProof.Rows in
set_option maxRecDepth 100000 in
set_option maxHeartbeats 0 in
theorem PySem.Challenge.cw_selfwritten_k03_chosen_lifted_and_writte_holds : PySem.Challenge.rw_selfwritten_k03_chosen_lifted_and_writte.Holds := by
  w_on; o_law; k_head; (case hw => w_witness2)
  k_fill
  refine My.walk (l := PySem.Challenge.rw_selfwritten_k03_chosen_lifted_and_writte) rfl rfl (fun w h Y => PySem.W.kIn_of Y) ?F
  case F =>
    intro w mg fa h KX G hmg
    refine' My.law_of hmg (My.all_mk KX G ?xa_TooMany ?ii_TooMany ?it_TooMany ?m_TooMany_init ?xa_BadNumber ?ii_BadNumber ?it_BadNumber ?m_BadNumber_init ?xa_BadWords ?ii_BadWords ?it_BadWords ?m_BadWords_init ?xa_BadOp ?ii_BadOp ?it_BadOp ?m_BadOp_init ?a_fn_op_word ?m_op_word ?a_fn_shortened ?m_shortened ?a_fn_shortened_and ?m_shortened_and ?a_fn_shortened_twice ?m_shortened_twice ?a_fn_is_int ?m_is_int ?a_fn_is_row ?m_is_row ?a_fn_check_int ?m_check_int ?a_fn_ones ?m_ones ?a_fn_lifted ?m_lifted ?a_fn_p_init ?i_p_init ?kp_p_init ?m_p_init ?a_fn_p_len ?i_p_len ?kp_p_len ?m_p_len ?a_fn_p_iter ?i_p_iter ?kp_p_iter ?m_p_iter ?a_fn_p_check_part ?i_p_check_part ?kp_p_check_part ?m_p_check_part ?a_fn_p_check_parts ?i_p_check_parts ?kp_p_check_parts ?m_p_check_parts ?a_fn_p_num ?i_p_num ?kp_p_num ?m_p_num ?a_fn_p_unknown ?i_p_unknown ?kp_p_unknown ?m_p_unknown ?a_fn_p_apply ?i_p_apply ?kp_p_apply ?m_p_apply ?a_fn_p_part ?i_p_part ?kp_p_part ?m_p_part ?a_fn_p_value ?i_p_value ?kp_p_value ?m_p_value ?a_fn_p_reached ?i_p_reached ?kp_p_reached ?m_p_reached ?a_fn_p_reached_by ?i_p_reached_by ?kp_p_reached_by ?m_p_reached_by ?a_fn_p_chosen ?i_p_chosen ?kp_p_chosen ?m_p_chosen ?a_fn_p_carry ?i_p_carry ?kp_p_carry ?m_p_carry ?a_fn_p_made ?i_p_made ?kp_p_made ?m_p_made ?a_fn_p_word ?i_p_word ?kp_p_word ?m_p_word ?a_fn_p_gets ?i_p_gets ?kp_p_gets ?m_p_gets ?a_fn_number_of ?m_number_of ?a_fn_part_text ?m_part_text ?a_fn_size ?m_size ?a_fn_part_of_words ?m_part_of_words ?a_fn_operand ?m_operand ?a_fn_word_of ?m_word_of ?a_fn_check_tokens ?m_check_tokens ?a_fn_law_draws ?m_law_draws ?a_fn_law_take ?m_law_take ?a_fn_law_word ?m_law_word ?a_fn_law_is_int ?m_law_is_int ?a_fn_law_op ?m_law_op ?a_fn_law_ops ?m_law_ops ?a_fn_law_term_rows ?m_law_term_rows ?a_fn_law_row_words ?m_law_row_words ?a_fn_law_keep ?m_law_keep ?a_fn_law_short ?m_law_short ?a_fn_law_apply ?m_law_apply ?a_fn_law_part ?m_law_part ?a_fn_law_asked ?m_law_asked ?a_fn_law_all_made ?m_law_all_made ?a_fn_law_due_chosen ?m_law_due_chosen ?a_fn_law_chosen_carry ?m_law_chosen_carry ?a_fn_law_lifted_told ?m_law_lifted_told ?a_fn_law_lifted_well ?m_law_lifted_well ?a_fn_law_tokens ?m_law_tokens ?a_fn_law_text_is ?m_law_text_is ?a_fn_law_read ?m_law_read ?a_fn_law_spoiled ?m_law_spoiled ?a_fn_law_read_new ?m_law_read_new ?a_fn_law_written ?m_law_written ?a_fn_law_odd_letters ?m_law_odd_letters ?a_fn_law_long_texts ?m_law_long_texts ?a_fn_law ?l_law ?c_law ?kp_law ?aC ?pg ?hd_ ?po ?sa ?mkI ?kc ?nA_width ?nA__most ?nA__parts ?nA__numbers ?ct_MOST_PARTS ?ct_LAST_UNKNOWN ?ct_MOST_DIGITS ?ct_MOST_TOKENS ?ca_OPS ?cv_OPS ?ca_EITHER_WAY ?cv_EITHER_WAY ?z_len ?z_list ?z_tuple ?z_int ?z_str ?z_min ?z_range ?z_isinstance ?z_sorted ?z_bool ?z_iter ?z_enumerate ?xa_BadPart ?xk_BadPart ?xx_BadPart ?xb_BadPart ?xt_BadPart ?xi_BadPart ?xs_BadPart ?xe_TooMany ?xsa_TooMany ?xk_TooMany ?xb_TooMany ?xt_TooMany ?xi_TooMany ?xs_TooMany ?xhd_TooMany ?xga_TooMany ?xgg_TooMany ?xnf_TooMany ?xe_BadNumber ?xsa_BadNumber ?xk_BadNumber ?xb_BadNumber ?xt_BadNumber ?xi_BadNumber ?xs_BadNumber ?xhd_BadNumber ?xga_BadNumber ?xgg_BadNumber ?xnf_BadNumber ?xe_BadWords ?xsa_BadWords ?xk_BadWords ?xb_BadWords ?xt_BadWords ?xi_BadWords ?xs_BadWords ?xhd_BadWords ?xga_BadWords ?xgg_BadWords ?xnf_BadWords ?xe_BadOp ?xsa_BadOp ?xk_BadOp ?xb_BadOp ?xt_BadOp ?xi_BadOp ?xs_BadOp ?xhd_BadOp ?xga_BadOp ?xgg_BadOp ?xnf_BadOp ?xno_BadPart_BadOp ?xno_BadNumber_BadOp ?xno_BadNumber_BadPart)
    (case xa_TooMany => k_is)
    (case xa_BadNumber => k_is)
    (case xa_BadWords => k_is)
    (case xa_BadOp => k_is)
    (case aC => k_is)
    (case ii_TooMany => k_is)
    (case it_TooMany => k_is)
    (case m_TooMany_init => (refine' My.mk_TooMany_init ?l ?c ?k; (case l => k_is); (case c => k_is); (case k => k_is)))
    (case ii_BadNumber => k_is)
    (case it_BadNumber => k_is)
    (case m_BadNumber_init => (refine' My.mk_BadNumber_init ?l ?c ?k; (case l => k_is); (case c => k_is); (case k => k_is)))
    (case ii_BadWords => k_is)
    (case it_BadWords => k_is)
    (case m_BadWords_init => (refine' My.mk_BadWords_init ?l ?c ?k; (case l => k_is); (case c => k_is); (case k => k_is)))
    (case ii_BadOp => k_is)
    (case it_BadOp => k_is)
    (case m_BadOp_init => (refine' My.mk_BadOp_init ?l ?c ?k; (case l => k_is); (case c => k_is); (case k => k_is)))
    (case a_fn_op_word => k_is)
    (case m_op_word => (refine' My.mk_op_word ?l ?c ?k; (case l => k_is); (case c => k_is); (case k => k_is)))
    (case a_fn_shortened => k_is)
    (case m_shortened => (refine' My.mk_shortened ?l ?c ?k; (case l => k_is); (case c => k_is); (case k => k_is)))
    (case a_fn_shortened_and => k_is)
    (case m_shortened_and => (refine' My.mk_shortened_and ?l ?c ?k; (case l => k_is); (case c => k_is); (case k => k_is)))
    (case a_fn_shortened_twice => k_is)
    (case m_shortened_twice => (refine' My.mk_shortened_twice ?l ?c ?k; (case l => k_is); (case c => k_is); (case k => k_is)))
    (case a_fn_is_int => k_is)
    (case m_is_int => (refine' My.mk_is_int ?l ?c ?k; (case l => k_is); (case c => k_is); (case k => k_is)))
    (case a_fn_is_row => k_is)
    (case m_is_row => (refine' My.mk_is_row ?l ?c ?k; (case l => k_is); (case c => k_is); (case k => k_is)))
    (case a_fn_check_int => k_is)
    (case m_check_int => (refine' My.mk_check_int ?l ?c ?k; (case l => k_is); (case c => k_is); (case k => k_is)))
    (case a_fn_ones => k_is)
    (case m_ones => (refine' My.mk_ones ?l ?c ?k; (case l => k_is); (case c => k_is); (case k => k_is)))
    (case a_fn_lifted => k_is)
    (case m_lifted => (refine' My.mk_lifted ?l ?c ?k; (case l => k_is); (case c => k_is); (case k => k_is)))
    (case a_fn_p_init => k_is)
    (case i_p_init => k_is)
    (case kp_p_init => k_is)
    (case m_p_init => (refine' My.mk_p_init ?l ?c ?k; (case l => k_is); (case c => k_is); (case k => k_is)))
    (case a_fn_p_len => k_is)
    (case i_p_len => k_is)
    (case kp_p_len => k_is)
    (case m_p_len => (refine' My.mk_p_len ?l ?c ?k; (case l => k_is); (case c => k_is); (case k => k_is)))
    (case a_fn_p_iter => k_is)
    (case i_p_iter => k_is)
    (case kp_p_iter => k_is)
    (case m_p_iter => (refine' My.mk_p_iter ?l ?c ?k; (case l => k_is); (case c => k_is); (case k => k_is)))
    (case a_fn_p_check_part => k_is)
    (case i_p_check_part => k_is)
    (case kp_p_check_part => k_is)
    (case m_p_check_part => (refine' My.mk_p_check_part ?l ?c ?k; (case l => k_is); (case c => k_is); (case k => k_is)))
    (case a_fn_p_check_parts => k_is)
    (case i_p_check_parts => k_is)
    (case kp_p_check_parts => k_is)
    (case m_p_check_parts => (refine' My.mk_p_check_parts ?l ?c ?k; (case l => k_is); (case c => k_is); (case k => k_is)))
    (case a_fn_p_num => k_is)
    (case i_p_num => k_is)
    (case kp_p_num => k_is)
    (case m_p_num => (refine' My.mk_p_num ?l ?c ?k; (case l => k_is); (case c => k_is); (case k => k_is)))
    (case a_fn_p_unknown => k_is)
    (case i_p_unknown => k_is)
    (case kp_p_unknown => k_is)
    (case m_p_unknown => (refine' My.mk_p_unknown ?l ?c ?k; (case l => k_is); (case c => k_is); (case k => k_is)))
    (case a_fn_p_apply => k_is)
    (case i_p_apply => k_is)
    (case kp_p_apply => k_is)
    (case m_p_apply => (refine' My.mk_p_apply ?l ?c ?k; (case l => k_is); (case c => k_is); (case k => k_is)))
    (case a_fn_p_part => k_is)
    (case i_p_part => k_is)
    (case kp_p_part => k_is)
    (case m_p_part => (refine' My.mk_p_part ?l ?c ?k; (case l => k_is); (case c => k_is); (case k => k_is)))
    (case a_fn_p_value => k_is)
    (case i_p_value => k_is)
    (case kp_p_value => k_is)
    (case m_p_value => (refine' My.mk_p_value ?l ?c ?k; (case l => k_is); (case c => k_is); (case k => k_is)))
    (case a_fn_p_reached => k_is)
    (case i_p_reached => k_is)
    (case kp_p_reached => k_is)
    (case m_p_reached => (refine' My.mk_p_reached ?l ?c ?k; (case l => k_is); (case c => k_is); (case k => k_is)))
    (case a_fn_p_reached_by => k_is)
    (case i_p_reached_by => k_is)
    (case kp_p_reached_by => k_is)
    (case m_p_reached_by => (refine' My.mk_p_reached_by ?l ?c ?k; (case l => k_is); (case c => k_is); (case k => k_is)))
    (case a_fn_p_chosen => k_is)
    (case i_p_chosen => k_is)
    (case kp_p_chosen => k_is)
    (case m_p_chosen => (refine' My.mk_p_chosen ?l ?c ?k; (case l => k_is); (case c => k_is); (case k => k_is)))
    (case a_fn_p_carry => k_is)
    (case i_p_carry => k_is)
    (case kp_p_carry => k_is)
    (case m_p_carry => (refine' My.mk_p_carry ?l ?c ?k; (case l => k_is); (case c => k_is); (case k => k_is)))
    (case a_fn_p_made => k_is)
    (case i_p_made => k_is)
    (case kp_p_made => k_is)
    (case m_p_made => (refine' My.mk_p_made ?l ?c ?k; (case l => k_is); (case c => k_is); (case k => k_is)))
    (case a_fn_p_word => k_is)
    (case i_p_word => k_is)
    (case kp_p_word => k_is)
    (case m_p_word => (refine' My.mk_p_word ?l ?c ?k; (case l => k_is); (case c => k_is); (case k => k_is)))
    (case a_fn_p_gets => k_is)
    (case i_p_gets => k_is)
    (case kp_p_gets => k_is)
    (case m_p_gets => (refine' My.mk_p_gets ?l ?c ?k; (case l => k_is); (case c => k_is); (case k => k_is)))
    (case a_fn_number_of => k_is)
    (case m_number_of => (refine' My.mk_number_of ?l ?c ?k; (case l => k_is); (case c => k_is); (case k => k_is)))
    (case a_fn_part_text => k_is)
    (case m_part_text => (refine' My.mk_part_text ?l ?c ?k; (case l => k_is); (case c => k_is); (case k => k_is)))
    (case a_fn_size => k_is)
    (case m_size => (refine' My.mk_size ?l ?c ?k; (case l => k_is); (case c => k_is); (case k => k_is)))
    (case a_fn_part_of_words => k_is)
    (case m_part_of_words => (refine' My.mk_part_of_words ?l ?c ?k; (case l => k_is); (case c => k_is); (case k => k_is)))
    (case a_fn_operand => k_is)
    (case m_operand => (refine' My.mk_operand ?l ?c ?k; (case l => k_is); (case c => k_is); (case k => k_is)))
    (case a_fn_word_of => k_is)
    (case m_word_of => (refine' My.mk_word_of ?l ?c ?k; (case l => k_is); (case c => k_is); (case k => k_is)))
    (case a_fn_check_tokens => k_is)
    (case m_check_tokens => (refine' My.mk_check_tokens ?l ?c ?k; (case l => k_is); (case c => k_is); (case k => k_is)))
    (case a_fn_law_draws => k_is)
    (case m_law_draws => (refine' My.mk_law_draws ?l ?c ?k; (case l => k_is); (case c => k_is); (case k => k_is)))
    (case a_fn_law_take => k_is)
    (case m_law_take => (refine' My.mk_law_take ?l ?c ?k; (case l => k_is); (case c => k_is); (case k => k_is)))
    (case a_fn_law_word => k_is)
    (case m_law_word => (refine' My.mk_law_word ?l ?c ?k; (case l => k_is); (case c => k_is); (case k => k_is)))
    (case a_fn_law_is_int => k_is)
    (case m_law_is_int => (refine' My.mk_law_is_int ?l ?c ?k; (case l => k_is); (case c => k_is); (case k => k_is)))
    (case a_fn_law_op => k_is)
    (case m_law_op => (refine' My.mk_law_op ?l ?c ?k; (case l => k_is); (case c => k_is); (case k => k_is)))
    (case a_fn_law_ops => k_is)
    (case m_law_ops => (refine' My.mk_law_ops ?l ?c ?k; (case l => k_is); (case c => k_is); (case k => k_is)))
    (case a_fn_law_term_rows => k_is)
    (case m_law_term_rows => (refine' My.mk_law_term_rows ?l ?c ?k; (case l => k_is); (case c => k_is); (case k => k_is)))
    (case a_fn_law_row_words => k_is)
    (case m_law_row_words => (refine' My.mk_law_row_words ?l ?c ?k; (case l => k_is); (case c => k_is); (case k => k_is)))
    (case a_fn_law_keep => k_is)
    (case m_law_keep => (refine' My.mk_law_keep ?l ?c ?k; (case l => k_is); (case c => k_is); (case k => k_is)))
    (case a_fn_law_short => k_is)
    (case m_law_short => (refine' My.mk_law_short ?l ?c ?k; (case l => k_is); (case c => k_is); (case k => k_is)))
    (case a_fn_law_apply => k_is)
    (case m_law_apply => (refine' My.mk_law_apply ?l ?c ?k; (case l => k_is); (case c => k_is); (case k => k_is)))
    (case a_fn_law_part => k_is)
    (case m_law_part => (refine' My.mk_law_part ?l ?c ?k; (case l => k_is); (case c => k_is); (case k => k_is)))
    (case a_fn_law_asked => k_is)
    (case m_law_asked => (refine' My.mk_law_asked ?l ?c ?k; (case l => k_is); (case c => k_is); (case k => k_is)))
    (case a_fn_law_all_made => k_is)
    (case m_law_all_made => (refine' My.mk_law_all_made ?l ?c ?k; (case l => k_is); (case c => k_is); (case k => k_is)))
    (case a_fn_law_due_chosen => k_is)
    (case m_law_due_chosen => (refine' My.mk_law_due_chosen ?l ?c ?k; (case l => k_is); (case c => k_is); (case k => k_is)))
    (case a_fn_law_chosen_carry => k_is)
    (case m_law_chosen_carry => (refine' My.mk_law_chosen_carry ?l ?c ?k; (case l => k_is); (case c => k_is); (case k => k_is)))
    (case a_fn_law_lifted_told => k_is)
    (case m_law_lifted_told => (refine' My.mk_law_lifted_told ?l ?c ?k; (case l => k_is); (case c => k_is); (case k => k_is)))
    (case a_fn_law_lifted_well => k_is)
    (case m_law_lifted_well => (refine' My.mk_law_lifted_well ?l ?c ?k; (case l => k_is); (case c => k_is); (case k => k_is)))
    (case a_fn_law_tokens => k_is)
    (case m_law_tokens => (refine' My.mk_law_tokens ?l ?c ?k; (case l => k_is); (case c => k_is); (case k => k_is)))
    (case a_fn_law_text_is => k_is)
    (case m_law_text_is => (refine' My.mk_law_text_is ?l ?c ?k; (case l => k_is); (case c => k_is); (case k => k_is)))
    (case a_fn_law_read => k_is)
    (case m_law_read => (refine' My.mk_law_read ?l ?c ?k; (case l => k_is); (case c => k_is); (case k => k_is)))
    (case a_fn_law_spoiled => k_is)
    (case m_law_spoiled => (refine' My.mk_law_spoiled ?l ?c ?k; (case l => k_is); (case c => k_is); (case k => k_is)))
    (case a_fn_law_read_new => k_is)
    (case m_law_read_new => (refine' My.mk_law_read_new ?l ?c ?k; (case l => k_is); (case c => k_is); (case k => k_is)))
    (case a_fn_law_written => k_is)
    (case m_law_written => (refine' My.mk_law_written ?l ?c ?k; (case l => k_is); (case c => k_is); (case k => k_is)))
    (case a_fn_law_odd_letters => k_is)
    (case m_law_odd_letters => (refine' My.mk_law_odd_letters ?l ?c ?k; (case l => k_is); (case c => k_is); (case k => k_is)))
    (case a_fn_law_long_texts => k_is)
    (case m_law_long_texts => (refine' My.mk_law_long_texts ?l ?c ?k; (case l => k_is); (case c => k_is); (case k => k_is)))
    (case a_fn_law => k_is)
    (case l_law => k_is)
    (case c_law => k_is)
    (case kp_law => k_is)
    (case pg => k_is)
    (case hd_ => k_is)
    (case po => k_is)
    (case sa => k_is)
    (case mkI => k_is)
    (case kc => k_is)
    (case nA_width => k_is)
    (case nA__most => k_is)
    (case nA__parts => k_is)
    (case nA__numbers => k_is)
    (case ct_MOST_PARTS => k_is)
    (case ct_LAST_UNKNOWN => k_is)
    (case ct_MOST_DIGITS => k_is)
    (case ct_MOST_TOKENS => k_is)
    (case ca_OPS => k_is)
    (case cv_OPS => (refine' My.tup_kit ?lk ?z ?v; (case lk => k_is); (case z => (show _ ≤ _; decide +kernel)); (case v => exact (.cons ⟨_, rfl⟩ (.cons ⟨_, rfl⟩ (.cons ⟨_, rfl⟩ (.cons ⟨_, rfl⟩ (.cons ⟨_, rfl⟩ (.cons ⟨_, rfl⟩ (.cons ⟨_, rfl⟩ .nil))))))))))
    (case ca_EITHER_WAY => k_is)
    (case cv_EITHER_WAY => (refine' My.tup_kit ?lk ?z ?v; (case lk => k_is); (case z => (show _ ≤ _; decide +kernel)); (case v => exact (.cons ⟨_, rfl⟩ (.cons ⟨_, rfl⟩ (.cons ⟨_, rfl⟩ (.cons ⟨_, rfl⟩ (.cons ⟨_, rfl⟩ .nil))))))))
    (case z_len => k_is)
    (case z_list => k_is)
    (case z_tuple => k_is)
    (case z_int => k_is)
    (case z_str => k_is)
    (case z_min => k_is)
    (case z_range => k_is)
    (case z_isinstance => k_is)
    (case z_sorted => k_is)
    (case z_bool => k_is)
    (case z_iter => k_is)
    (case z_enumerate => k_is)
    (case xa_BadPart => k_is)
    (case xk_BadPart => k_is)
    (case xx_BadPart => k_exc)
    (case xb_BadPart => k_is)
    (case xt_BadPart => k_is)
    (case xi_BadPart => k_is)
    (case xs_BadPart => k_is)
    (case xe_TooMany => kx_is)
    (case xsa_TooMany => k_is)
    (case xk_TooMany => k_is)
    (case xb_TooMany => k_is)
    (case xt_TooMany => k_is)
    (case xi_TooMany => k_is)
    (case xs_TooMany => k_is)
    (case xhd_TooMany => k_is)
    (case xga_TooMany => k_is)
    (case xgg_TooMany => k_is)
    (case xnf_TooMany => k_is)
    (case xe_BadNumber => kx_is)
    (case xsa_BadNumber => k_is)
    (case xk_BadNumber => k_is)
    (case xb_BadNumber => k_is)
    (case xt_BadNumber => k_is)
    (case xi_BadNumber => k_is)
    (case xs_BadNumber => k_is)
    (case xhd_BadNumber => k_is)
    (case xga_BadNumber => k_is)
    (case xgg_BadNumber => k_is)
    (case xnf_BadNumber => k_is)
    (case xe_BadWords => kx_is)
    (case xsa_BadWords => k_is)
    (case xk_BadWords => k_is)
    (case xb_BadWords => k_is)
    (case xt_BadWords => k_is)
    (case xi_BadWords => k_is)
    (case xs_BadWords => k_is)
    (case xhd_BadWords => k_is)
    (case xga_BadWords => k_is)
    (case xgg_BadWords => k_is)
    (case xnf_BadWords => k_is)
    (case xe_BadOp => kx_is)
    (case xsa_BadOp => k_is)
    (case xk_BadOp => k_is)
    (case xb_BadOp => k_is)
    (case xt_BadOp => k_is)
    (case xi_BadOp => k_is)
    (case xs_BadOp => k_is)
    (case xhd_BadOp => k_is)
    (case xga_BadOp => k_is)
    (case xgg_BadOp => k_is)
    (case xnf_BadOp => k_is)
    (case xno_BadPart_BadOp => k_is)
    (case xno_BadNumber_BadOp => k_is)
    (case xno_BadNumber_BadPart => k_is)
