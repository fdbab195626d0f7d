import PyProof.Rows.All
import Wide.All
import OpenK.AllK
import Wide.FinOn
import HandS.ForMost
import HandS.Exc
import HandS.ExcOwn
import HandS.TryOnly
import HandS.WordsExc
import HandS.IsInst
import HandS.DictComp
import HandS.Conv
import HandS.More
import HandS.SortInts
import HandS.Small
import HandS.Evl
import KE.KBits
import HandS.OwnIter
import HandS.IterNext
import HandS.ExcInit
import HandS.ExcField
import KE.KExcInit
import HandS.Walk
import HandS.TryMany
import KE.GoesMore
import HandS.Iter
import KE.KDictZip
import KE.GoesEnum
import KE.KDictItemsList
import HandS.ListItems
import HandS.Style
import KE.KRevSl
import KE.KDictList
import HandS.Zip
import HandS.RaiseMore
import HandS.RevRange
import HandS.ExcIs
import HandS.Dict
import PyProof.Rows.RegReprOcc
import PySem.Challenge.RW_selfwritten_k18_registers_not_named
import KE.KExcLine
set_option Elab.async false
set_option linter.all false
set_option maxRecDepth 100000
set_option maxHeartbeats 4000000
/-! Kit -/
/-! own rules over the hand layer -/
namespace My
open PySem PySem.Spec PyProof.Rows L2
section
variable {X : Cx}
theorem callR_imp {f : Value} {r r' : List V → Hp → VK → Prop} (h : CallR X f r) (i : ∀ xs H Q, r' xs H Q → r xs H Q) : CallR X f r' :=
  fun pins s σ H xs us Q I rv q => h pins s σ H xs us Q I rv (i xs H Q q)
theorem call_intI : CallR X (.type "int") (fun xs H Q => ∃ i, xs = [.int i] ∧ Q (.int i) H) := callR_imp call_int1 fun _ _ _ h => .inl h
theorem call_intB : CallR X (.type "int") (fun xs H Q => ∃ k, xs = [.bl k] ∧ Q (.int (if k then 1 else 0)) H) := callR_imp call_int1 fun _ _ _ h => .inr h
theorem call_lenL : CallR X (.builtin "len") (fun xs H Q => ∃ p ys, xs = [.ref p] ∧ SqL X.K H p ys ∧ Q (.int ys.length) H) := callR_imp call_len_seq fun _ _ _ ⟨p, ys, e, h, q⟩ => ⟨p, ys, e, .inl h, q⟩
theorem call_lenT : CallR X (.builtin "len") (fun xs H Q => ∃ p ys, xs = [.ref p] ∧ SqT X.K H p ys ∧ Q (.int ys.length) H) := callR_imp call_len_seq fun _ _ _ ⟨p, ys, e, h, q⟩ => ⟨p, ys, e, .inr h, q⟩
theorem call_listL : CallR X (.type "list") (fun xs H Q => ∃ p ys, xs = [.ref p] ∧ SqL X.K H p ys ∧ ∀ l, H l = none → Q (.ref l) (upd H l (.lst ys))) := callR_imp call_list_of fun _ _ _ ⟨p, ys, e, h, q⟩ => ⟨p, ys, e, .inl h, q⟩
theorem call_listT : CallR X (.type "list") (fun xs H Q => ∃ p ys, xs = [.ref p] ∧ SqT X.K H p ys ∧ ∀ l, H l = none → Q (.ref l) (upd H l (.lst ys))) := callR_imp call_list_of fun _ _ _ ⟨p, ys, e, h, q⟩ => ⟨p, ys, e, .inr h, q⟩
theorem call_tupleL : CallR X (.type "tuple") (fun xs H Q => ∃ p ys, xs = [.ref p] ∧ SqL X.K H p ys ∧ ∀ l, H l = none → Q (.ref l) (upd H l (.tup ys))) := callR_imp call_tuple_of fun _ _ _ ⟨p, ys, e, h, q⟩ => ⟨p, ys, e, .inl ⟨h, q⟩⟩
theorem call_isTy : CallR X (.builtin "isinstance") (fun xs H Q => ∃ x t c, xs = [x, .ty c] ∧ TyX X.K H x (.type t) ∧ ∃ b, kitB t c = some b ∧ Q (.bl b) H) :=
  callR_imp call_isi fun _ _ _ ⟨x, t, c, e, h, b, k, q⟩ => ⟨x, .ty c, .type t, .type c, b, e, .ty c, h, kit_ty k, q⟩
theorem call_isTy2 : CallR X (.builtin "isinstance") (fun xs H Q => ∃ x t c d tp, xs = [x, .ref tp] ∧ H tp = some (.tup [.ty c, .ty d]) ∧ TyX X.K H x (.type t) ∧ ∃ b b', kitB t c = some b ∧ kitB t d = some b' ∧ Q (.bl (b || b')) H) :=
  callR_imp call_isiT fun _ _ _ ⟨x, t, c, d, tp, e, ht, h, b, b', k, k', q⟩ => ⟨x, tp, [.ty c, .ty d], .type t, [.type c, .type d], (b || b'), e, ht, .cons (.ty c) (.cons (.ty d) .nil), h,
    kitAny_cons (kit_ty k) (fun z => by rw [z]; exact kitAny_cons (kit_ty k') (fun z' => by rw [z']; exact kitAny_nil) (fun z' => by rw [z']; rfl)) (fun z => by rw [z]; rfl), q⟩
theorem k_ii : kitB "int" "int" = some true := by decide +kernel
theorem k_bi : kitB "bool" "int" = some true := by decide +kernel
theorem k_ni : kitB "NoneType" "int" = some false := by decide +kernel
theorem k_si : kitB "str" "int" = some false := by decide +kernel
theorem k_li : kitB "list" "int" = some false := by decide +kernel
theorem k_ib : kitB "int" "bool" = some false := by decide +kernel
theorem k_bb : kitB "bool" "bool" = some true := by decide +kernel
theorem k_ll : kitB "list" "list" = some true := by decide +kernel
theorem k_lt : kitB "list" "tuple" = some false := by decide +kernel
theorem k_tl : kitB "tuple" "list" = some false := by decide +kernel
theorem k_tt : kitB "tuple" "tuple" = some true := by decide +kernel
theorem k_nl : kitB "NoneType" "list" = some false := by decide +kernel
theorem k_nt : kitB "NoneType" "tuple" = some false := by decide +kernel
theorem pe_fldA {e : Expr} {ta : TE} {f : Str} {pos : Pos} (he : PE X e ta) (hb : attributeBase e f X.env (eval e X.env) = eval e X.env := by rfl) : PE X (.Attribute e f pos) (tFld X.K ta f) := pe_fld he hb
/-- X(), X an own exception class without own __init__ -/
theorem pmk_0 {C : Addr} {bmB : List Value} {B newId initId : String} {x : Str} {p pos : Pos} (F : ExcBaseFacts B newId initId bmB) (q : PySem.W.excIn X.K C bmB newId = true) (gC : X.mg x = some (.ref C))
    (kC : PySem.W.keepIn X.K (.ref C) = true) (r : Raises X (.ref C)) (hg : Gl X x) (hdb : (x == ("__debug__" : Str)) = false := by decide) :
    PMk X (.Call (.Name x p) [] [] pos) (fun _ H Q => Q (.ref C) none H) := by
  intro pins s σ H Q I h
  refine wpAny_Call_Name_kw (ld_glob I hg gC ?_ hdb)
  refine PySem.W.callWith_K0 I.kIn kC ?_
  obtain ⟨bm, N, nm, qn, bs, hdct, sn, sub, ab, col, dd, k0, k1, k2, k3, k5, mN, hC, hN, hni, T⟩ := exc_obj I.kIn q
  refine wpAny_call_exc_subT F T hC hN hni (fun h' e hm => ?_) (Nat.zero_le _)
  exact mk_of I hm r h (I.hok.gone hm.new)
theorem sw_trueD {kx vx : Expr} {gs : List Comprehension} {scope : Scope} {pos py : Pos} {y : Str} {l : Nat} {env : Env} (hk : env.scope.kind = .function) (hy : env.scope.names.lookup y = some .local) (hl : (py.line == pos.line) = true)
    (ha : (scope.names.any fun (n, k) => n == y && (k == .local || k == .cell)) = false) : swapsWith (.DictComp kx vx gs scope pos) (some (.Name y py)) l env = pure true := by
  have ky : env.kindOf y = some .local := hy
  have hb : env.blockKind = .function := by unfold Env.blockKind; rw [hk]; rfl
  unfold swapsWith
  simp only [hb, ky, ha, Expr.pos, hl]
  rfl
theorem ps_setDc {i : Nat} {y : Str} {py : Pos} {kx vx tg iter : Expr} {ifs : List Expr} {scope : Scope} {own : List (Str × Nat)} {pos spos : Pos} {wi : TI} {g : TG} {tt : TT} {tk tv : TE} (hc : X.calm = true) (hN : X.N.Nodup) (hy : X.N[i]? = some y) (hyl : X.env.scope.names.lookup y = some .local)
    (hsw : swapsWith (.DictComp kx vx [⟨tg, iter, ifs, 0⟩] scope pos) (some (.Name y py)) spos.line X.env = pure true) (hi : PI X tg iter wi) (ok : BlkOk X.N X.env.scope scope own)
    (hg : ∀ (s : Shared) (H : Hp) (C : Addr) (cl : List (Str × Addr)) (fp : List Addr), PG (X.blk s H scope (compEnvC scope cl C X.env) fp) tg g) (ht : ∀ (s : Shared) (H : Hp) (C : Addr) (cl : List (Str × Addr)) (fp : List Addr), PTs (X.blk s H scope (compEnvC scope cl C X.env) fp) ifs tt)
    (hk : ∀ (s : Shared) (H : Hp) (C : Addr) (cl : List (Str × Addr)) (fp : List Addr), PE (X.blk s H scope (compEnvC scope cl C X.env) fp) kx tk)
    (he : ∀ (s : Shared) (H : Hp) (C : Addr) (cl : List (Str × Addr)) (fp : List Addr), PE (X.blk s H scope (compEnvC scope cl C X.env) fp) vx tv) (hs : ∀ x, foldedSetIterable iter X.env x = pure x := by intro _; rfl) :
    PS X (.Assign [.Name y py] (.DictComp kx vx [⟨tg, iter, ifs, 0⟩] scope pos) spos) (tAsg (tDc wi g tt tk tv (own.map (·.2))) (gName i)) := by
  refine ⟨fun pins s σ H D I h => ?_⟩
  rw [exec_Assign_Name_used _ _ _ _ hsw]
  refine wpAny_bind (wpAny_standAt (wpAny_bind ?_))
  show wpAny _ X.A (do let _ ← comprehension (.DictComp kx vx [⟨tg, iter, ifs, 0⟩] scope pos) scope X.env (firstIterPos [⟨tg, iter, ifs, 0⟩] pos) (newDict #[]) false (eval iter X.env) (some (assign (.Name y py) X.env))) _ _ s
  have h : tDc wi g tt tk tv (own.map (·.2)) σ H (fun x H1 => gName i x σ H1 D.nx) := h
  refine wpAny_bind (thn (dc_core (Qf := fun _ s' => SP X pins D .next s') hc hN I hi ok hg ht hk he hs h fun L C s' m H' I' q hn f => ?_) fun _ s' hq => wpAny_pure (wpAny_pure hq))
  show wpAny _ _ (assign (.Name y py) X.env (.ref L)) _ _ _
  refine wpAny_assign_Name (store_ok2 (v := V.ref L) I' hN hy (.inl hyl) rfl (fun s2 I2 ⟨a, sb, ha⟩ => ?_) (.inr hyl))
  obtain ⟨f0, f1, f2, f3, f4, f5⟩ := f
  have haC : C ≠ a := by
    rcases ha with z | z
    · rw [z]; exact f1
    · exact fun e => f4 y a z e.symm
  refine ⟨m, hn.sameBut sb haC, fun h3 sb3 => ?_⟩
  exact ⟨_, H', I2.turned (t' := s2.toks) (fun b o hb e => (sb3.2 b hb).trans e) f0 f1 f3 f4 f5, q⟩
end
end My

/-! Kit2 -/
/-! len(o), list(o) of an own class with __len__, __iter__ -/
namespace My
open PySem PySem.Spec L2
section
variable {X : Cx} {pins : List (Addr × Obj)} {σ : L2.St} {H : Hp} {s : Shared}
/-- a def called from within a built-in -/
theorem run_in {A1 : Around} {k : Nat} {f : Addr} {fd : FuncData} {sp : Sp} {a : Addr} {Q : VK} {Q' : Value → Shared → Prop} {E' : Value → Shared → Prop} (sb : Sub X k A1) (FL : FnOk X.prog X.w X.K X.mg X.base CX0 k f fd ["self"] sp) (bL : Binds X.K fd ["self"] [])
    (I : Inv X pins σ H s) (hsp : sp [.ref a] H Q E0) (h : ∀ u s' v H', Inv X pins σ H' s' → RelV v u → Q v H' → Q' u s') :
    wpAny (model X.prog X.w) A1 (call (.ref f) [.ref a]) Q' E' s := by
  have e0 : Env0 X.prog X.w X.K X.mg X.base A1 X.stack s H := by
    have e := I.env0
    exact ⟨by rw [sb.fr]; exact e.frames, e.mod, e.bs, e.bsz, e.funs, e.frf, e.hok, e.bare⟩
  have hl := FL.len _ _ _ _ hsp
  have r2 : Vals [V.ref a] [Value.ref a] := .cons rfl .nil
  refine wpAny_call (codeAny_mono (FL.run A1 X.stack s H ⟨[.ref a], []⟩ [.ref a] [.ref a] Q E0 sb.room e0 (by
    have := bL s [.ref a] I.kIn (by simpa using hl)
    simpa using this) r2 hsp) fun r s' hq => ?_)
  cases r with
  | error e => exact False.elim hq
  | ok fl =>
    cases fl with
    | ret u =>
      obtain ⟨v, H', I', rv, q⟩ := I.after hq
      exact h u s' v H' I' rv q
    | next => exact False.elim hq
    | brk => exact False.elim hq
    | cont => exact False.elim hq
theorem len_in {A : Around} {k : Nat} {C f a dx : Addr} {fs : List (Str × V)} {fd : FuncData} {sp : Sp} {n : Nat} {Q : Value → Shared → Prop} {E' : Value → Shared → Prop} (hl : PySem.W.findIn X.K (.ref C) "__len__" = some (some (.ref f))) (hf : PySem.W.typeIn X.K (.ref f) = some (.type "function"))
    (FL : FnOk X.prog X.w X.K X.mg X.base CX0 k f fd ["self"] sp) (bL : Binds X.K fd ["self"] []) (sb : Sub X (k + 1) A) (I : Inv X pins σ H s) (ha : H a = some (.ins C dx fs)) (hn : n < 2 ^ 63)
    (hsp : sp [.ref a] H (fun v H' => v = .int n ∧ H' = H) E0) (h : ∀ t s', Inv X pins σ H s' → Q (.int n t) s') : wpAny (model X.prog X.w) A (call (.builtin "len") [.ref a]) Q E' s := by
  obtain ⟨mA, J, _⟩ := ins_get I.hok ha
  obtain ⟨od, J, _⟩ := J.look
  refine Calls.call_function_entry kind_len plain_len entry_len (args_len1 _) ?_
  unfold Builtin.«len»
  refine wpAny_bind (m := oneArg "len" _) (wpAny_pure ?_)
  refine wpAny_bind (m := callSpecial? (.ref a) (Str.ofString "__len__")) (PySem.W.special_fn I.kIn J hl hf ?_)
  refine run_in sb.in1 FL bL I hsp fun u s' v H' I' rv q => ?_
  obtain ⟨ev, eH⟩ := q
  subst ev
  rw [eH] at I'
  obtain ⟨t, rfl⟩ := rv
  refine wpAny_bind (wpAny_holding (wpAny_pure ?_))
  refine wpAny_bind (wpAny_letGo ?_)
  show wpAny _ _ (if (n : Int) < 0 then _ else _) _ _ _
  rw [if_neg (by omega)]
  show wpAny _ _ (if (n : Int) ≥ 2 ^ 63 then _ else _) _ _ _
  rw [if_neg (by omega)]
  exact wpAny_bind (wpAny_mkInt (wpAny_pure ⟨_, rfl, h _ _ (I'.tok _)⟩))
theorem call_lenOwn {k : Nat} {C f : Addr} {fd : FuncData} {sp : Sp} (hl : PySem.W.findIn X.K (.ref C) "__len__" = some (some (.ref f))) (hf : PySem.W.typeIn X.K (.ref f) = some (.type "function"))
    (FL : FnOk X.prog X.w X.K X.mg X.base CX0 k f fd ["self"] sp) (bL : Binds X.K fd ["self"] []) (hr : Room (k + 1) X.A) :
    CallR X (.builtin "len") (fun xs H Q => ∃ a dx fs n, xs = [.ref a] ∧ H a = some (.ins C dx fs) ∧ sp [.ref a] H (fun v H' => v = .int (n : Nat) ∧ H' = H) E0 ∧ n < 2 ^ 63 ∧ Q (.int n) H) := by
  intro pins s σ H xs us Q I rv h
  obtain ⟨a, dx, fs, n, rfl, ha, hsp, hn, q⟩ := h
  obtain ⟨u, rfl, ru⟩ := rv.one
  cases ru
  exact len_in hl hf FL bL ⟨hr, rfl⟩ I ha hn hsp fun t s' I' => ⟨.int n, H, I', ⟨_, rfl⟩, q⟩
/-- at it: an iterator over the list at l -/
def ItX (l it : Addr) (i : Nat) : HO := .ext fun h => h.IsListIter it l i
def AnyO (a : Addr) : HO := .ext fun h => ∃ o, h.get? a = some o
theorem itX_ok {P : Program} {w : World} {H : Hp} {h : Heap} {l it : Addr} {i : Nat} (e : h.IsListIter it l i) : ObjOk P w H h it (ItX l it i) := by
  obtain ⟨o, e1, e2, e3⟩ := e
  exact ⟨⟨o, e1, e2, e3⟩, ⟨_, e1⟩, fun h1 h2 q k => by obtain ⟨o', q1, q2, q3⟩ := q; exact ⟨o', k _ q1, q2, q3⟩⟩
theorem anyO_ok {P : Program} {w : World} {H : Hp} {h : Heap} {a : Addr} (e : ∃ o, h.get? a = some o) : ObjOk P w H h a (AnyO a) :=
  ⟨e, e, fun h1 h2 q k => by obtain ⟨o', q1⟩ := q; exact ⟨o', k _ q1⟩⟩
theorem next_end2 {prog : Program} {w : World} {A : Around} {E : Value → Shared → Prop} {s : Shared} {it l : Addr} {i : Nat} {items} {Q : Option Value → Shared → Prop} (hh : A.handled = none)
    (hit : s.heap.IsListIter it l i) (hl : s.heap.IsList l items) (hx : items[i]? = none)
    (hQ : ∀ h', Heap.ExtBut it s.heap h' → (∃ o, h'.get? it = some o) → Q none { s with heap := h' }) : wpAny (model prog w) A (pyNext (.ref it)) Q E s := by
  obtain ⟨o, ho, hc, hd⟩ := id hit
  obtain ⟨ol, hol, _, nl, hdl⟩ := hl
  unfold pyNext
  refine wpAny_bind (wpAny_attempt (wpAny_callSpecial?_slot (name := Str.ofString "__next__") hit.typeIs slot_listiter_next
    (wpAny_call_entry slot_listiter_next hit.typeIs entry_listiter_next ?_ (args_listiter_next _))))
  show wpAny _ _ (field (.ref it) 0 >>= _) _ _ s
  refine wpAny_bind (wpAny_field ho hd (x := .ref l) rfl ?_)
  show wpAny _ _ (if (Value.ref l == Value.none) = true then _ else _) _ _ s
  rw [if_neg (show ¬ ((Value.ref l == Value.none) = true) from Bool.false_ne_true)]
  show wpAny _ _ (field (.ref it) 1 >>= _) _ _ s
  refine wpAny_bind (wpAny_field ho hd (x := .int i 0) rfl ?_)
  show wpAny _ _ (seqItems? (.ref l) >>= _) _ _ s
  refine wpAny_bind (wpAny_seqItems hol hdl ?_)
  simp only [Int.toNat_natCast, hx]
  refine wpAny_bind (wpAny_rule (wpAny_bind (wpAny_setField ho hd (by simp) ?_)))
  show wpAny _ _ (newExc (.type "StopIteration") [] >>= _) _ _ _
  refine wpAny_bind ?_
  simp only [newExc, newTuple]
  refine wpAny_bind (wpAny_newObj_type ?_ (by size_fits))
  refine wpAny_bind (m := firstArgMember _ _) (wpAny_of_eq (a := Value.none) (by first | rfl | (simp only [firstArgMember]; rfl)) ?_)
  refine wpAny_newObj_type ?_ (by size_fits)
  simp only [raiseNew]
  refine wpAny_bind (wpAny_handled ?_)
  rw [show A.in1.handled = none from hh]
  refine wpAny_bind (wpAny_pure (wpAny_throw ?_))
  refine wpAny_bind (wpAny_isInstance (T := "StopIteration") (b := true) ⟨_, Heap.get?_push_size _ rfl, rfl⟩ isSubtype_stop ?_)
  refine wpAny_pure (hQ _ (((Heap.SameBut.update ..).extBut.push _).push _) ⟨_, Heap.get?_push_of_some _ (Heap.get?_push_of_some _ (Heap.get?_update_self _ ho (Obj.isFreed_of_fields (Obj.data_mapFields hd _))))⟩)
theorem list_loop {A1 : Around} {it l q : Addr} {ys : List V} {H0 : Hp} {Rs : Result → Shared → Prop} (hh : A1.handled = none) (hil : l ≠ it) (hiq : q ≠ it) (hlq : l ≠ q) (hz : ys.length < sizeLine)
    (hdone : ∀ H s, Inv X pins σ H s → (∀ b, b ≠ it → b ≠ q → H b = H0 b) → H q = some (.lst ys) → Rs (.ok (.ret .none)) s) :
    ∀ (m i : Nat) (H : Hp) (s : Shared), m = ys.length - i → i ≤ ys.length → Inv X pins σ H s → (∀ b, b ≠ it → b ≠ q → H b = H0 b) → H l = some (.lst ys) → H it = some (ItX l it i) → H q = some (.lst (ys.take i)) →
      codeAny (model X.prog X.w) A1 (.builtin "list.extend.loop" ⟨[.ref q, .ref it, .none], []⟩) Rs s := by
  intro m
  induction m with
  | zero =>
    intro i H s hm hi I hk hl hit hq
    refine codeAny_builtin PySem.F.entry_extend_loop ?_
    rw [Around.under_plainId PySem.F.plain_extend_loop _]
    show wpAny _ A1.in1 (pyNext (.ref it) >>= _) _ _ s
    have hin : s.heap.IsListIter it l i := (I.hok it _ hit).1
    obtain ⟨its, rv, p, _⟩ := I.list (SqL.of hl)
    have hlen := rv.length
    refine wpAny_bind (next_end2 hh hin p.isList (by simp; omega) fun h' eb he => ?_)
    have I2 : Inv X pins σ (upd H it (AnyO it)) { s with heap := h' } := I.write (t' := s.toks) (x := it) (e := it) (o := AnyO it) (by rw [hit]; exact True.intro) (.inl rfl) (fun b o hb e => eb b o hb e) he (anyO_ok he)
    have ei : i = ys.length := by omega
    refine wpAny_pure (hdone _ _ I2 (fun b h1 h2 => by rw [upd_ne h1]; exact hk b h1 h2) ?_)
    rw [upd_ne hiq, hq, ei, List.take_length]
  | succ m ih =>
    intro i H s hm hi I hk hl hit hq
    refine codeAny_builtin PySem.F.entry_extend_loop ?_
    rw [Around.under_plainId PySem.F.plain_extend_loop _]
    show wpAny _ A1.in1 (pyNext (.ref it) >>= _) _ _ s
    have hin : s.heap.IsListIter it l i := (I.hok it _ hit).1
    obtain ⟨its, rv, p, _⟩ := I.list (SqL.of hl)
    have hlt : i < ys.length := by omega
    obtain ⟨u, hu, ru⟩ := rv.get (List.getElem?_eq_getElem hlt)
    refine wpAny_bind (wpAny_pyNext_list_item hin p.isList (x := u) (by simpa using hu) fun h' st' sb => ?_)
    obtain ⟨o', e1, _⟩ := id st'
    have I2 : Inv X pins σ (upd H it (ItX l it (i + 1))) { s with heap := h' } := I.write (t' := s.toks) (x := it) (e := it) (o := ItX l it (i + 1)) (by rw [hit]; exact True.intro) (.inl rfl) (fun b o hb e => (sb.2 b hb).trans e) ⟨_, e1⟩ (itX_ok st')
    have hq2 : upd H it (ItX l it (i + 1)) q = some (.lst (ys.take i)) := by rw [upd_ne hiq]; exact hq
    show wpAny _ A1.in1 (updateSeq q (·.push u) >>= _) _ _ _
    obtain ⟨z, its2, k, r2, hl2, e⟩ := I2.lstM hq2
    have hl3 : (ys.take i).length < sizeLine := by rw [List.length_take]; omega
    refine wpAny_bind (wpAny_updateSeq e rfl (wpAny_pure ⟨plainId_quiet PySem.F.plain_extend_loop _, ?_⟩) (by rw [List.size_toArray]; omega) (by show (its2.toArray.push u).size ≤ sizeLine + 1; rw [Array.size_push, List.size_toArray]; omega))
    have et : ys.take (i + 1) = ys.take i ++ [ys[i]] := by rw [List.take_add_one, List.getElem?_eq_getElem hlt]; rfl
    refine ih (i + 1) _ _ (by omega) hlt (I2.lset (ys := ys.take (i + 1)) (its' := its2 ++ [u]) (t' := s.toks) hq2 e (by simp) (by rw [et]; exact r2.append (.cons ru .nil)) (by rw [List.length_take]; omega)) (fun b h1 h2 => ?_) ?_ ?_ upd_same
    · rw [upd_ne h2, upd_ne h1]; exact hk b h1 h2
    · rw [upd_ne hlq, upd_ne hil]; exact hl
    · rw [upd_ne hiq.symm, upd_same]
theorem hint_own {A : Around} {k : Nat} {C fl a dx : Addr} {fs : List (Str × V)} {fd : FuncData} {sp : Sp} {n : Nat} {Q : Bool → Shared → Prop} {E' : Value → Shared → Prop} (hl : PySem.W.findIn X.K (.ref C) "__len__" = some (some (.ref fl))) (hf : PySem.W.typeIn X.K (.ref fl) = some (.type "function"))
    (FL : FnOk X.prog X.w X.K X.mg X.base CX0 k fl fd ["self"] sp) (bL : Binds X.K fd ["self"] []) (sb : Sub X (k + 1) A) (I : Inv X pins σ H s) (ha : H a = some (.ins C dx fs)) (hn : n < sizeLine)
    (hsp : sp [.ref a] H (fun v H' => v = .int n ∧ H' = H) E0) (h : ∀ b s', Inv X pins σ H s' → Q b s') : wpAny (model X.prog X.w) A (Builtin.List.listLengthHint (.ref a)) Q E' s := by
  obtain ⟨mA, J, _⟩ := ins_get I.hok ha
  obtain ⟨od, J, _⟩ := J.look
  unfold Builtin.List.listLengthHint
  refine wpAny_bind (wpAny_bind (J.type.here ((PySem.W.looks_findIn I.kIn hl).here ?_)))
  refine PySem.W.KFB.if_not rfl ?_
  refine PySem.W.KFB.if_so rfl ?_
  refine wpAny_bind (wpAny_rule ?_)
  have hs : sizeLine = 16777216 := sizeLine_eq
  refine wpAny_bind (wpAny_attempt (len_in hl hf FL bL sb I ha (by omega) hsp fun t s' I' => ?_))
  show wpAny _ _ (if Builtin.List.listTooLong (n : Int).toNat = true then _ else pure ((n : Int) != 0)) _ _ _
  have hz : Builtin.List.listTooLong (n : Int).toNat = false := notLongL (by rw [Int.toNat_natCast]; omega)
  rw [if_neg (by rw [hz]; exact Bool.false_ne_true)]
  exact wpAny_pure (h _ _ I')
theorem call_listOwn2 {k : Nat} {C fi fl : Addr} {fdI fdL : FuncData} {spI spL : Sp} (hit : PySem.W.findIn X.K (.ref C) "__iter__" = some (some (.ref fi))) (hiF : PySem.W.isFn X.K (.ref fi) = true)
    (hl : PySem.W.findIn X.K (.ref C) "__len__" = some (some (.ref fl))) (hf : PySem.W.typeIn X.K (.ref fl) = some (.type "function"))
    (FI : FnOk X.prog X.w X.K X.mg X.base CX0 k fi fdI ["self"] spI) (bI : Binds X.K fdI ["self"] []) (FL : FnOk X.prog X.w X.K X.mg X.base CX0 k fl fdL ["self"] spL) (bL : Binds X.K fdL ["self"] []) (hc : X.calm = true) (hr : Room (k + 3) X.A) :
    CallR X (.type "list") (fun xs H Q => ∃ a dx fs l ys, xs = [.ref a] ∧ H a = some (.ins C dx fs) ∧ H l = some (.lst ys) ∧ ys.length < sizeLine ∧
      (∀ H1, Same H H1 → spI [.ref a] H1 (fun v H' => ∃ it, v = .ref it ∧ H1 it = none ∧ H' = upd H1 it (ItO l it 0)) E0 ∧ spL [.ref a] H1 (fun v H' => v = .int (ys.length : Nat) ∧ H' = H1) E0) ∧
      ∀ q H', H q = none → Same H H' → H' q = some (.lst ys) → Q (.ref q) H') := by
  intro pins s σ H xs us Q I rv h
  obtain ⟨a, dx, fs, l, ys, rfl, ha, hL, hz, hsp, hq⟩ := h
  obtain ⟨u, rfl, ru⟩ := rv.one
  cases ru
  have sb : Sub X (k + 1) X.A.in1.in1 := (Sub.in1 (Sub.in1 (⟨hr, rfl⟩ : Sub X (k + 3) X.A)))
  have sb0 : Sub X k X.A.in1.in1 := sb.mono (Nat.le_succ _)
  refine callType_codes (Q₁ := fun obj s₁ => obj = .ref s.heap.objs.size ∧ s₁ = { s with heap := s.heap.push { cls := .type "list", data := .seq #[] } }) PySem.F.called_list (PySem.F.typeCall_list_1 _) PySem.F.entry_list_init
    (code_list_new _ ⟨rfl, rfl⟩) fun obj s₁ h₁ => ?_
  obtain ⟨rfl, rfl⟩ := h₁
  have hS : (s.heap.push { cls := .type "list", data := .seq #[] }).get? s.heap.objs.size = some { cls := .type "list", data := .seq #[] } := Heap.get?_push_size _ rfl
  refine ⟨⟨_, hS, rfl⟩, PySem.F.args_list_init_2 _ _, ?_⟩
  have fr : H s.heap.objs.size = none := I.hok.fresh (Nat.le_refl _)
  generalize hqe : s.heap.objs.size = q at *
  have I1 : Inv X pins σ (upd H q (.lst [])) { s with heap := s.heap.push { cls := .type "list", data := .seq #[] } } := by
    have := I.lnew (its := []) (ys := []) (t' := s.toks) .nil (Nat.zero_le _)
    rw [hqe] at this
    exact this
  show wpAny _ _ (do let old ← Builtin.List.listItems (.ref q); Builtin.List.listUpdate (.ref q) (fun _ => #[]); letGo old.toList.reverse; Builtin.List.listExtendWith (.ref q) (.ref a) .none) _ _ _
  refine wpAny_bind ?_
  unfold Builtin.List.listItems
  refine wpAny_bind (wpAny_seqItems hS rfl (wpAny_pure ?_))
  show wpAny _ _ (updateSeq q (fun _ => #[]) >>= fun _ => letGo (#[] : Array Value).toList.reverse >>= fun _ => Builtin.List.listExtendWith (.ref q) (.ref a) .none) _ _ _
  refine wpAny_bind (wpAny_updateSeq hS rfl ?_)
  have I2 := I1.lset (f := fun _ => #[]) (its := []) (its' := []) (ys := []) (t' := s.toks) upd_same hS rfl .nil (Nat.zero_le _)
  rw [upd_upd] at I2
  refine wpAny_bind (wpAny_letGo ?_)
  have s2 : Same H (upd H q (.lst [])) := fun b o e => by rw [upd_ne (ne_of_none e fr)]; exact e
  have ha2 := s2 _ _ ha
  have hne : q ≠ a := (ne_of_none ha fr).symm
  have hql : l ≠ q := ne_of_none hL fr
  obtain ⟨mA, J, _⟩ := ins_get I2.hok ha2
  obtain ⟨od, J, _⟩ := J.look
  obtain ⟨m0, hF⟩ := I2.fr
  unfold Builtin.List.listExtendWith
  refine wpAny_bind (J.type.here ?_)
  have h1 : Builtin.List.listSameRef (.ref q) (.ref a) = false := by simp [Builtin.List.listSameRef, hne]
  have h2 : (Value.ref C == Value.type "list") = false := rfl
  have h3 : (Value.ref C == Value.type "tuple") = false := rfl
  simp only [h1, h2, h3, Bool.or_false, Bool.false_eq_true, if_false]
  obtain ⟨hspI, hspL⟩ := hsp _ s2
  refine wpAny_bind (PySem.W.owit_iter hF I2.ok.mod.kin J hit hiF ?_)
  refine run_in sb0 FI bI I2 hspI fun u s' v H' I' rv q' => ?_
  obtain ⟨it, ev, hn, eH⟩ := q'
  subst ev
  subst eH
  cases rv
  have hin : s'.heap.IsListIter it l 0 := by
    have e := itO_get I' upd_same
    exact ⟨_, e, rfl, rfl⟩
  unfold PySem.W.OwitIt
  refine wpAny_bind (wpAny_typeOf hin.typeIs ?_)
  rw [slot_listiter_next.lookup]
  refine wpAny_pure ?_
  have qit : q ≠ it := ne_of_none (show upd H q (.lst []) q = some _ from upd_same) hn
  have lit : l ≠ it := ne_of_none (s2 _ _ hL) hn
  have ait : a ≠ it := ne_of_none ha2 hn
  -- the iterator, tracked by what is asked of it
  have I3 : Inv X pins σ (upd (upd H q (.lst [])) it (ItX l it 0)) s' := by
    have := I'.write (t' := s'.toks) (h' := s'.heap) (x := it) (e := it) (o := ItX l it 0) (by rw [upd_same]; exact True.intro) (.inl rfl) (fun _ _ _ e => e) (by obtain ⟨o, e, _⟩ := hin; exact ⟨o, e⟩) (itX_ok hin)
    rw [upd_upd] at this
    exact this
  have s3 : Same H (upd (upd H q (.lst [])) it (ItX l it 0)) := fun b o e => by rw [upd_ne (ne_of_none (s2 _ _ e) hn)]; exact s2 _ _ e
  obtain ⟨_, hspL3⟩ := hsp _ s3
  refine wpAny_bind (wpAny_holding (hint_own hl hf FL bL sb I3 (s3 _ _ ha) hz hspL3 fun b s4 I4 => ?_))
  have go : ∀ s5 : Shared, Inv X pins σ (upd (upd H q (.lst [])) it (ItX l it 0)) s5 →
      codeAny (model X.prog X.w) X.A.in1 (.builtin "list.extend.loop" ⟨[.ref q, .ref it, .none], []⟩) (wants (fun r s₂ => r = .none ∧ EP X pins σ Q (.ref q) s₂) X.xe) s5 := fun s5 I5 => by
    refine list_loop (H0 := H) (ys := ys) (show X.A.in1.handled = none from I.ok.hd hc) lit qit hql hz (fun H6 s6 I6 hk hq6 => ⟨rfl, .ref q, H6, I6, rfl, hq q H6 fr (fun b o e => ?_) hq6⟩) _ 0 _ s5 rfl (Nat.zero_le _) I5 (fun b h1 h2 => by rw [upd_ne h1, upd_ne h2]) (s3 _ _ hL) upd_same (by rw [upd_ne qit, upd_same]; rfl)
    rw [hk b (ne_of_none (s2 _ _ e) hn) (ne_of_none e fr)]
    exact e
  have hq4 : upd (upd H q (.lst [])) it (ItX l it 0) q = some (.lst []) := by rw [upd_ne qit, upd_same]
  obtain ⟨z, its, k3, r3, hl3, e3⟩ := I4.lstM hq4
  cases r3
  refine wpAny_ite_split (fun _ => ?_) (fun _ => wpAny_pure ⟨plainId_quiet PySem.F.plain_extend_loop _, go _ I4⟩)
  refine wpAny_bind (wpAny_rule ?_)
  refine wpAny_bind ?_
  show wpAny _ _ (updateSeq q (·.push .none) >>= fun _ => updateSeq q (·.pop)) _ _ _
  refine wpAny_bind (wpAny_updateSeq e3 rfl ?_)
  have I5 := I4.lset (f := (·.push Value.none)) (its' := [Value.none]) (ys := [.non]) (t' := s4.toks) hq4 e3 (by simp) (.cons rfl .nil) (by rw [List.length_singleton, sizeLine_eq]; decide)
  obtain ⟨z4, its4, k4, r4, hl4, e4⟩ := I5.lstM upd_same
  obtain ⟨u4, rfl, ru4⟩ := r4.one
  refine wpAny_updateSeq e4 rfl ?_ (by show 1 ≤ sizeLine; rw [sizeLine_eq]; decide) (by show 0 ≤ sizeLine + 1; exact Nat.zero_le _)
  refine wpAny_pure ⟨plainId_quiet PySem.F.plain_extend_loop _, go _ ?_⟩
  have I6 := I5.lset (f := (·.pop)) (its := [u4]) (its' := []) (ys := []) (t' := s4.toks) upd_same e4 (by rfl) .nil (Nat.zero_le _)
  rw [upd_upd] at I6
  have hH : upd (upd (upd H q (.lst [])) it (ItX l it 0)) q (.lst []) = upd (upd H q (.lst [])) it (ItX l it 0) := by
    funext b
    by_cases hb : b = q
    · rw [hb, upd_same, upd_ne qit, upd_same]
    · rw [upd_ne hb]
  rw [hH] at I6
  exact I6
end
end My

/-! M -/
/-! terms: parts, pools, their words; plain Lean -/
namespace My
open PySem L2
theorem gN {i : Nat} {v : V} {σ : L2.St} {H : Hp} {Q : L2.St → Hp → Prop} (h : Q (σ.set i (some v)) H) : gName i v σ H Q := h
theorem seqT {t u : TS} {D : Ends} {σ : L2.St} {H : Hp} (h : t { D with nx := u D } σ H) : tSeq t u D σ H := h
theorem iteN {c A B : Prop} [Decidable c] (h : ¬ c) (b : B) : if c then A else B := by rw [if_neg h]; exact b
theorem iteP {c A B : Prop} [Decidable c] (h : c) (a : A) : if c then A else B := by rw [if_pos h]; exact a
theorem dT {p : Prop} [Decidable p] (h : p) : decide p = true := decide_eq_true h
theorem dF {p : Prop} [Decidable p] (h : ¬ p) : ¬ decide p = true := fun z => h (of_decide_eq_true z)
theorem ite2d {p A B : Prop} [Decidable p] (h1 : p → A) (h2 : ¬ p → B) : if decide p = true then A else B := by
  by_cases h : p
  · rw [if_pos (decide_eq_true h)]; exact h1 h
  · rw [if_neg (dF h)]; exact h2 h
theorem nT {b : Bool} (h : ¬ b = true) : (!b) = true := by cases b <;> simp_all
theorem nF {b : Bool} (h : b = true) : ¬ (!b) = true := by cases b <;> simp_all
theorem cpow1 {n : Int} (h0 : 0 ≤ n) (h : n ≤ 1000) : CPow 1 n := ⟨h0, by omega, by decide⟩
theorem cpow10 : CPow 10 18 := ⟨by decide, by decide, by decide⟩
theorem cdiv {i j : Int} (h0 : 0 < j) (h : j < 1073741824) : CDiv i j := ⟨h0, h⟩
theorem two_pos (n : Int) : (0 : Int) < 1 * 2 ^ n.toNat := by rw [Int.one_mul]; exact Int.pow_pos (by decide)
inductive Op | add | sub | and | or | xor | less | same deriving DecidableEq
def Op.s : Op → Str | .add => "add" | .sub => "sub" | .and => "and" | .or => "or" | .xor => "xor" | .less => "less" | .same => "same"
def opI (w : Nat) : Op → Int → Int → Int
  | .add, x, y => (x + y) % 2 ^ w
  | .sub, x, y => (x - y) % 2 ^ w
  | .and, x, y => Builtin.bitAnd x y
  | .or, x, y => Builtin.bitOr x y
  | .xor, x, y => Builtin.bitXor x y
  | .less, x, y => if x < y then 1 else 0
  | .same, x, y => if x = y then 1 else 0
theorem mask_eq (x : Int) (n : Nat) : Builtin.bitAnd x (1 * 2 ^ (n : Int).toNat - 1) = x % 2 ^ n := by
  rw [Int.one_mul, Int.toNat_natCast]; exact PySem.W.kbt_mask x n
inductive Part | num (v : Int) | get (i : Int) | op (o : Op) (a b : Nat) deriving DecidableEq
def Part.vals : Part → List V
  | .num v => [.str "num", .int v] | .get i => [.str "get", .int i] | .op o a b => [.str o.s, .int a, .int b]
def Part.key : Part → List Key
  | .num v => [.inr "num", .inl v] | .get i => [.inr "get", .inl i] | .op o a b => [.inr o.s, .inl a, .inl b]
theorem key_vals (p : Part) : p.key.map kV = p.vals := by cases p <;> rfl
theorem op_inj {o o' : Op} (h : o.s = o'.s) : o = o' := by
  cases o <;> cases o' <;> first | rfl | (exact absurd h (by decide +kernel))
theorem num_get : ¬ (("num" : Str) = "get") := by decide +kernel
theorem key_inj {p q : Part} (h : p.key = q.key) : p = q := by
  cases p <;> cases q <;> simp [Part.key] at h
  · exact congrArg _ h
  · exact absurd h.1 num_get
  · exact absurd h.1.symm num_get
  · exact congrArg _ h
  · obtain ⟨h1, h2, h3⟩ := h
    have h2 := Int.ofNat.inj h2
    have h3 := Int.ofNat.inj h3
    rw [op_inj h1, h2, h3]
theorem vals_inj {p q : Part} (h : p.vals = q.vals) : p = q := by
  cases p <;> cases q <;> simp [Part.vals] at h
  · exact congrArg _ h
  · exact absurd h.1 num_get
  · exact absurd h.1.symm num_get
  · exact congrArg _ h
  · obtain ⟨h1, h2, h3⟩ := h
    have h2 := Int.ofNat.inj h2
    have h3 := Int.ofNat.inj h3
    rw [op_inj h1, h2, h3]
/-- made or found -/
def mk (ps : List Part) (p : Part) : Nat × List Part := if p ∈ ps then (ps.idxOf p, ps) else (ps.length, ps ++ [p])
def numd (ps : List Part) : List (List Key × V) := ps.zipIdx.map fun x => (x.1.key, .int (x.2 : Nat))
theorem numd_snoc (ps : List Part) (p : Part) : numd (ps ++ [p]) = numd ps ++ [(p.key, .int (ps.length : Nat))] := by
  unfold numd
  rw [List.zipIdx_append, List.map_append]
  simp
theorem numd_len (ps : List Part) : (numd ps).length = ps.length := by unfold numd; simp
theorem valV_numd (p : Part) : ∀ ps : List Part, valV (numd ps) p.key = if p ∈ ps then some (.int (ps.idxOf p : Nat)) else none := by
  have gen : ∀ (ps : List Part) (k : Nat), valV ((ps.zipIdx k).map fun x => (x.1.key, V.int (x.2 : Nat))) p.key = if p ∈ ps then some (.int ((k + ps.idxOf p : Nat) : Int)) else none := by
    intro ps
    induction ps with
    | nil => intro k; rfl
    | cons q r ih =>
      intro k
      rw [List.zipIdx_cons, List.map_cons]
      by_cases e : q = p
      · subst e
        rw [valV_pos rfl, if_pos List.mem_cons_self, List.idxOf_cons_self]
        rfl
      · rw [valV_neg (fun z => e (key_inj z)), ih (k + 1)]
        by_cases m : p ∈ r
        · have ee : (q == p) = false := by simpa using e
          rw [if_pos m, if_pos (List.mem_cons_of_mem _ m), List.idxOf_cons, ee]
          simp only [Option.some.injEq, V.int.injEq, cond_false]
          omega
        · rw [if_neg m, if_neg (fun z => m ((List.mem_cons.mp z).resolve_left (fun y => e y.symm)))]
  intro ps
  have := gen ps 0
  simp only [Nat.zero_add] at this
  exact this
/-! ### what is shortened -/
inductive Sh | one | other | zero | unit | no deriving DecidableEq
def Sh.v : Sh → V | .one => .str "one" | .other => .str "other" | .zero => .str "zero" | .unit => .str "unit" | .no => .non
def shTwice : Op → Sh | .sub => .zero | .xor => .zero | .less => .zero | .or => .one | .same => .unit | _ => .no
def shAnd (fa fb : Option Int) (eq : Bool) (most : Int) : Sh :=
  if fa = some 0 ∨ fb = some 0 then .zero else if fa = some most then .other else if fb = some most ∨ eq = true then .one else .no
def shortR (o : Op) (fa fb : Option Int) (eq : Bool) (most : Int) : Sh :=
  if (o = .add ∨ o = .or ∨ o = .xor) ∧ fa = some 0 then .other
  else if (o = .add ∨ o = .or ∨ o = .xor) ∧ fb = some 0 then .one
  else if o = .and then shAnd fa fb eq most
  else if fb = some 0 ∧ o = .sub then .one
  else if fb = some 0 ∧ o = .less then .zero
  else if eq = true then shTwice o
  else .no
def optV : Option Int → V | some x => .int x | none => .non
theorem dec_opt (fa : Option Int) (z : Int) : decide (optV fa = .int z) = decide (fa = some z) := by
  cases fa with
  | none => simp [optV]
  | some x => simp [optV]
theorem scal_opt (fa : Option Int) (z : Int) : scal (optV fa) (.int z) = true := by cases fa <;> rfl
def either (o : Op) : Bool := match o with | .sub => false | .less => false | _ => true
def Part.word : Part → Option Int | .num v => some v | _ => none
def wordOf (ps : List Part) (a : Nat) : Option Int := (ps[a]?).bind Part.word
theorem wordOf_at {ps : List Part} {i : Nat} {p : Part} (h : ps[i]? = some p) : wordOf ps i = p.word := by unfold wordOf; rw [h]; rfl
def fin (ps : List Part) (o : Op) (a b : Nat) : Sh → Nat × List Part
  | .one => (a, ps) | .other => (b, ps) | .zero => mk ps (.num 0) | .unit => mk ps (.num 1) | .no => mk ps (.op o a b)
def mApply (w : Nat) (ps : List Part) (o : Op) (a b : Nat) : Nat × List Part :=
  match wordOf ps a, wordOf ps b with
  | some x, some y => mk ps (.num (opI w o x y))
  | fa, fb => if either o = true ∧ b < a then fin ps o b a (shortR o fb fa (decide (b = a)) (2 ^ w - 1)) else fin ps o a b (shortR o fa fb (decide (a = b)) (2 ^ w - 1))
/-! ### in the heap -/
def TupsAt (H : Hp) (ts : List Addr) (ps : List Part) : Prop := ts.length = ps.length ∧ ∀ (i : Nat) (p : Part), ps[i]? = some p → ∃ t : Addr, ts[i]? = some t ∧ H t = some (.tup p.vals)
/-- a list of parts at l -/
def LAt (H : Hp) (l : Addr) (ps : List Part) : Prop := ∃ ts, H l = some (.lst (ts.map V.ref)) ∧ TupsAt H ts ps
theorem LAt.item {H : Hp} {l : Addr} {ps : List Part} (h : LAt H l ps) : ∃ xs : List V, H l = some (.lst xs) ∧ xs.length = ps.length ∧ ∀ (i : Nat) (p : Part), ps[i]? = some p → ∃ t : Addr, xs[i]? = some (V.ref t) ∧ H t = some (.tup p.vals) := by
  obtain ⟨ts, h1, h2, h3⟩ := h
  refine ⟨_, h1, by rw [List.length_map, h2], fun i p e => ?_⟩
  obtain ⟨t, e1, e2⟩ := h3 i p e
  exact ⟨t, by rw [List.getElem?_map, e1]; rfl, e2⟩
/-- what stands stays, but for what S says -/
def Keep (S : Addr → Prop) (H H' : Hp) : Prop := ∀ b o, H b = some o → ¬ S b → H' b = some o
theorem LAt.keep {S : Addr → Prop} {H H' : Hp} {l : Addr} {ps : List Part} (h : LAt H l ps) (k : Keep S H H') (hl : ¬ S l) (ht : ∀ t xs, H t = some (.tup xs) → ¬ S t) : LAt H' l ps := by
  obtain ⟨ts, h1, h2, h3⟩ := h
  refine ⟨ts, k _ _ h1 hl, h2, fun i p e => ?_⟩
  obtain ⟨t, e1, e2⟩ := h3 i p e
  exact ⟨t, e1, k _ _ e2 (ht _ _ e2)⟩
theorem LAt.push {H H' : Hp} {l t : Addr} {ps : List Part} {p : Part} {xs : List V} (h : LAt H l ps) (hx : H l = some (.lst xs)) (k : ∀ b ys, H b = some (.tup ys) → H' b = some (.tup ys)) (e : H' l = some (.lst (xs ++ [.ref t]))) (et : H' t = some (.tup p.vals)) : LAt H' l (ps ++ [p]) := by
  obtain ⟨ts, h1, h2, h3⟩ := h
  rw [h1] at hx
  cases hx
  refine ⟨ts ++ [t], by rw [e, List.map_append]; rfl, by rw [List.length_append, List.length_append, h2]; rfl, fun i q hq => ?_⟩
  by_cases hi : i < ps.length
  · rw [List.getElem?_append_left hi] at hq
    obtain ⟨u, e1, e2⟩ := h3 i q hq
    refine ⟨u, by rw [List.getElem?_append_left (by omega)]; exact e1, k _ _ e2⟩
  · have hl := (List.getElem?_eq_some_iff.mp hq).1
    rw [List.length_append, List.length_singleton] at hl
    have ei : i = ps.length := by omega
    subst ei
    rw [List.getElem?_append_right (Nat.le_refl _), Nat.sub_self] at hq
    cases hq
    exact ⟨t, by rw [← h2, List.getElem?_append_right (Nat.le_refl _), Nat.sub_self]; rfl, et⟩
def poolF (w : Nat) (l d : Addr) : List (Str × V) := [("width", .int w), ("_most", .int (2 ^ w - 1)), ("_parts", .ref l), ("_numbers", .ref d)]
structure PoolAt (C : Addr) (H : Hp) (a l d : Addr) (w : Nat) (ps : List Part) : Prop where
  ob : ∃ dx, H a = some (.ins C dx (poolF w l d))
  lst : LAt H l ps
  dic : H d = some (.dT (numd ps))
theorem ld_ne {H : Hp} {l d : Addr} {xs : List V} {kvs : List (List Key × V)} (h1 : H l = some (.lst xs)) (h2 : H d = some (.dT kvs)) : l ≠ d := ne_of h1 h2 (by intro z; cases z)
theorem PoolAt.keep {S : Addr → Prop} {C : Addr} {H H' : Hp} {a l d : Addr} {w : Nat} {ps : List Part} (h : PoolAt C H a l d w ps) (k : Keep S H H') (ha : ¬ S a) (hl : ¬ S l) (hd : ¬ S d) (ht : ∀ t xs, H t = some (.tup xs) → ¬ S t) : PoolAt C H' a l d w ps :=
  ⟨by obtain ⟨dx, e⟩ := h.ob; exact ⟨dx, k _ _ e ha⟩, h.lst.keep k hl ht, k _ _ h.dic hd⟩
theorem lk {f g : Str} {y : V} {fs : List (Str × V)} : ((f, y) :: fs).lookup g = if g = f then some y else fs.lookup g := by
  by_cases h : g = f
  · subst h; simp [List.lookup]
  · have e : (g == f) = false := by simpa using h
    rw [if_neg h]; simp [List.lookup, e]
theorem look_width (w : Nat) (l d : Addr) : (poolF w l d).lookup ("width" : Str) = some (V.int w) := by unfold poolF; rw [lk, if_pos rfl]
theorem look_most (w : Nat) (l d : Addr) : (poolF w l d).lookup ("_most" : Str) = some (V.int (2 ^ w - 1)) := by unfold poolF; rw [lk, if_neg (by decide +kernel), lk, if_pos rfl]
theorem look_parts (w : Nat) (l d : Addr) : (poolF w l d).lookup ("_parts" : Str) = some (V.ref l) := by unfold poolF; rw [lk, if_neg (by decide +kernel), lk, if_neg (by decide +kernel), lk, if_pos rfl]
theorem look_numbers (w : Nat) (l d : Addr) : (poolF w l d).lookup ("_numbers" : Str) = some (V.ref d) := by unfold poolF; rw [lk, if_neg (by decide +kernel), lk, if_neg (by decide +kernel), lk, if_neg (by decide +kernel), lk, if_pos rfl]
theorem look_no (w : Nat) (l d : Addr) {m : Str} (h1 : ¬ m = "width") (h2 : ¬ m = "_most") (h3 : ¬ m = "_parts") (h4 : ¬ m = "_numbers") : (poolF w l d).lookup m = none := by
  unfold poolF; rw [lk, if_neg h1, lk, if_neg h2, lk, if_neg h3, lk, if_neg h4]; rfl
theorem poolF_made (w : Nat) (l d : Addr) : putF "_numbers" (.ref d) (putF "_parts" (.ref l) (putF "_most" (.int (2 ^ w - 1)) (putF "width" (.int w) []))) = poolF w l d := by
  have e1 : ¬ (("width" : Str) = "_most") := by decide +kernel
  have e2 : ¬ (("width" : Str) = "_parts") := by decide +kernel
  have e3 : ¬ (("_most" : Str) = "_parts") := by decide +kernel
  have e4 : ¬ (("width" : Str) = "_numbers") := by decide +kernel
  have e5 : ¬ (("_most" : Str) = "_numbers") := by decide +kernel
  have e6 : ¬ (("_parts" : Str) = "_numbers") := by decide +kernel
  simp only [putF, if_neg e1, if_neg e2, if_neg e3, if_neg e4, if_neg e5, if_neg e6]
  rfl
end My

/-! R -/
/-! what a part is made of -/
namespace My
open PySem L2
inductive Reach (ps : List Part) (n : Nat) : Nat → Prop
  | self : Reach ps n n
  | left {k : Nat} {o : Op} {a b : Nat} : Reach ps n k → ps[k]? = some (Part.op o a b) → Reach ps n a
  | right {k : Nat} {o : Op} {a b : Nat} : Reach ps n k → ps[k]? = some (Part.op o a b) → Reach ps n b
/-- operands stand ahead -/
def WF (ps : List Part) : Prop := ∀ (k : Nat) (o : Op) (a b : Nat), ps[k]? = some (Part.op o a b) → a < k ∧ b < k
theorem Reach.le {ps : List Part} {n k : Nat} (w : WF ps) (h : Reach ps n k) : k ≤ n := by
  induction h with
  | self => exact Nat.le_refl _
  | left _ e ih => have := w _ _ _ _ e; omega
  | right _ e ih => have := w _ _ _ _ e; omega
structure ReachL (ps : List Part) (n : Nat) (ks : List Nat) : Prop where
  asc : ks.Pairwise (· < ·)
  mem : ∀ k, k ∈ ks ↔ Reach ps n k
theorem asc_ext : ∀ {xs ys : List Nat}, xs.Pairwise (· < ·) → ys.Pairwise (· < ·) → (∀ k, k ∈ xs ↔ k ∈ ys) → xs = ys
  | [], [], _, _, _ => rfl
  | [], y :: ys, _, _, h => absurd ((h y).mpr List.mem_cons_self) (by simp)
  | x :: xs, [], _, _, h => absurd ((h x).mp List.mem_cons_self) (by simp)
  | x :: xs, y :: ys, hx, hy, h => by
    obtain ⟨hx1, hx2⟩ := List.pairwise_cons.mp hx
    obtain ⟨hy1, hy2⟩ := List.pairwise_cons.mp hy
    have e : x = y := by
      rcases List.mem_cons.mp ((h x).mp List.mem_cons_self) with e | e
      · exact e
      · rcases List.mem_cons.mp ((h y).mpr List.mem_cons_self) with e' | e'
        · exact e'.symm
        · have := hy1 _ e; have := hx1 _ e'; omega
    subst e
    rw [asc_ext hx2 hy2 fun k => ⟨fun m => ?_, fun m => ?_⟩]
    · rcases List.mem_cons.mp ((h k).mp (List.mem_cons_of_mem _ m)) with e | e
      · have := hx1 _ m; omega
      · exact e
    · rcases List.mem_cons.mp ((h k).mpr (List.mem_cons_of_mem _ m)) with e | e
      · have := hy1 _ m; omega
      · exact e
theorem ReachL.uniq {ps : List Part} {n : Nat} {ks ls : List Nat} (h : ReachL ps n ks) (h' : ReachL ps n ls) : ks = ls :=
  asc_ext h.asc h'.asc fun k => (h.mem k).trans (h'.mem k).symm
/-- the dict of what is found -/
def dk (F : List Nat) : List (Key × V) := F.map fun (k : Nat) => (Sum.inl ((k : Nat) : Int), V.bl true)
theorem valV_dk (k : Nat) : ∀ F : List Nat, valV (dk F) (Sum.inl (k : Int)) = if k ∈ F then some (.bl true) else none
  | [] => rfl
  | j :: F => by
    have ih := valV_dk k F
    unfold dk at ih ⊢
    rw [List.map_cons]
    by_cases e : j = k
    · subst e
      rw [valV_pos rfl, if_pos List.mem_cons_self]
    · rw [valV_neg (fun z => e (by have := Sum.inl.inj z; exact Int.ofNat.inj this)), ih]
      by_cases m : k ∈ F
      · rw [if_pos m, if_pos (List.mem_cons_of_mem _ m)]
      · rw [if_neg m, if_neg (fun z => m ((List.mem_cons.mp z).resolve_left (fun y => e y.symm)))]
theorem dk_len (F : List Nat) : (dk F).length = F.length := by unfold dk; simp
theorem dk_put {F : List Nat} {k : Nat} (h : k ∉ F) : putK (dk F) (Sum.inl (k : Int)) (.bl true) = dk (F ++ [k]) := by
  rw [putK_new _ (by rw [valV_dk, if_neg h])]; unfold dk; simp
theorem dk_keys (F : List Nat) : (dk F).map (·.1) = (F.map fun (k : Nat) => ((k : Nat) : Int)).map Sum.inl := by unfold dk; simp
/-- found and waiting -/
structure FW (ps : List Part) (n : Nat) (F W : List Nat) : Prop where
  nd : F.Nodup
  sub : ∀ k ∈ W, k ∈ F
  rch : ∀ k ∈ F, Reach ps n k
  n_in : n ∈ F
  clo : ∀ k ∈ F, k ∉ W → ∀ (o : Op) (a b : Nat), ps[k]? = some (Part.op o a b) → a ∈ F ∧ b ∈ F
def addN (s : List Nat × List Nat) (k : Nat) : List Nat × List Nat := if k ∈ s.1 then s else (s.1 ++ [k], s.2 ++ [k])
theorem addN_in {s : List Nat × List Nat} {k : Nat} (h : k ∈ s.1) : addN s k = s := if_pos h
theorem addN_new {s : List Nat × List Nat} {k : Nat} (h : k ∉ s.1) : addN s k = (s.1 ++ [k], s.2 ++ [k]) := if_neg h
theorem nodup_lt : ∀ {n : Nat} {F : List Nat}, F.Nodup → (∀ k ∈ F, k < n) → F.length ≤ n
  | 0, F, _, hk => by
    cases F with
    | nil => exact Nat.le_refl _
    | cons x r => exact absurd (hk x List.mem_cons_self) (Nat.not_lt_zero _)
  | n + 1, F, h, hk => by
    have ih := nodup_lt (n := n) (F := F.erase n) (h.erase n) fun k m => by
      have := (h.mem_erase_iff).mp m
      have := hk k this.2
      omega
    rw [List.length_erase] at ih
    split at ih <;> omega
end My
namespace My
open PySem L2
def adds (s : List Nat × List Nat) (l : List Nat) : List Nat × List Nat := l.foldl addN s
theorem adds_two {s : List Nat × List Nat} (x y : Nat) (i : Nat) (v : Nat) (h : [x, y][i]? = some v) : adds s ([x, y].take (i + 1)) = addN (adds s ([x, y].take i)) v := by
  match i, h with
  | 0, h => cases h; rfl
  | 1, h => cases h; rfl
  | i + 2, h => simp at h
theorem addN_mono {s : List Nat × List Nat} {k j : Nat} (h : j ∈ s.1) : j ∈ (addN s k).1 := by
  unfold addN; split
  · exact h
  · exact List.mem_append_left _ h
theorem addN_self {s : List Nat × List Nat} {k : Nat} : k ∈ (addN s k).1 := by
  unfold addN; split
  · assumption
  · simp
/-- one turn -/
structure Mid (ps : List Part) (n : Nat) (s : List Nat × List Nat) (j : Nat) : Prop where
  nd : s.1.Nodup
  sub : ∀ k ∈ s.2, k ∈ s.1
  rch : ∀ k ∈ s.1, Reach ps n k
  n_in : n ∈ s.1
  clo : ∀ k ∈ s.1, k ∉ s.2 → k ≠ j → ∀ (o : Op) (a b : Nat), ps[k]? = some (Part.op o a b) → a ∈ s.1 ∧ b ∈ s.1
theorem Mid.add {ps : List Part} {n : Nat} {s : List Nat × List Nat} {j k : Nat} (m : Mid ps n s j) (r : Reach ps n k) : Mid ps n (addN s k) j := by
  by_cases h : k ∈ s.1
  · rw [addN_in h]; exact m
  · rw [addN_new h]
    refine ⟨?_, fun z hz => ?_, fun z hz => ?_, List.mem_append_left _ m.n_in, fun z hz hn hj o a b e => ?_⟩
    · exact List.nodup_append.mpr ⟨m.nd, by simp, by intro a ha b hb; simp at hb; subst hb; exact fun e => h (e ▸ ha)⟩
    · rcases List.mem_append.mp hz with hz | hz
      · exact List.mem_append_left _ (m.sub z hz)
      · exact List.mem_append_right _ hz
    · rcases List.mem_append.mp hz with hz | hz
      · exact m.rch z hz
      · simp at hz; subst hz; exact r
    · rcases List.mem_append.mp hz with hz | hz
      · have := m.clo z hz (fun q => hn (List.mem_append_left _ q)) hj o a b e
        exact ⟨List.mem_append_left _ this.1, List.mem_append_left _ this.2⟩
      · exact absurd (List.mem_append_right _ hz) hn
theorem FW.mid {ps : List Part} {n : Nat} {F W : List Nat} {j : Nat} (f : FW ps n F (W ++ [j])) : Mid ps n (F, W) j :=
  ⟨f.nd, fun k m => f.sub k (List.mem_append_left _ m), f.rch, f.n_in, fun k hk hn hj o a b e => f.clo k hk (by simp [hn, hj]) o a b e⟩
theorem Mid.fw {ps : List Part} {n : Nat} {s : List Nat × List Nat} {j : Nat} (m : Mid ps n s j) (h : ∀ (o : Op) (a b : Nat), ps[j]? = some (Part.op o a b) → a ∈ s.1 ∧ b ∈ s.1) : FW ps n s.1 s.2 :=
  ⟨m.nd, m.sub, m.rch, m.n_in, fun k hk hn o a b e => by
    by_cases hj : k = j
    · subst hj; exact h o a b e
    · exact m.clo k hk hn hj o a b e⟩
/-- the measure of one step -/
theorem addN_meas (N : Nat) (s : List Nat × List Nat) (k : Nat) (h : (addN s k).1.length ≤ N) : 2 * (N - (addN s k).1.length) + (addN s k).2.length ≤ 2 * (N - s.1.length) + s.2.length := by
  unfold addN at h ⊢
  split
  · exact Nat.le_refl _
  · rename_i hk
    rw [if_neg hk] at h
    simp at h ⊢
    omega
end My

/-! R2 -/
namespace My
open PySem L2
/-! ### made or found -/
theorem mk_at (ps : List Part) (p : Part) : (mk ps p).2[(mk ps p).1]? = some p := by
  unfold mk; split
  · rename_i h
    have := List.idxOf_lt_length_iff.mpr h
    rw [List.getElem?_eq_getElem this, List.getElem_idxOf]
  · rw [List.getElem?_append_right (Nat.le_refl _), Nat.sub_self]; rfl
theorem mk_lt (ps : List Part) (p : Part) : (mk ps p).1 < (mk ps p).2.length := (List.getElem?_eq_some_iff.mp (mk_at ps p)).1
theorem mk_pre (ps : List Part) (p : Part) : ps <+: (mk ps p).2 := by unfold mk; split; exact List.prefix_refl _; exact List.prefix_append _ _
theorem mk_len (ps : List Part) (p : Part) : (mk ps p).2.length ≤ ps.length + 1 := by unfold mk; split <;> simp
theorem fin_lt {ps : List Part} {o : Op} {a b : Nat} (ha : a < ps.length) (hb : b < ps.length) (s : Sh) : (fin ps o a b s).1 < (fin ps o a b s).2.length := by
  cases s <;> first | exact ha | exact hb | exact mk_lt _ _
theorem fin_pre (ps : List Part) (o : Op) (a b : Nat) (s : Sh) : ps <+: (fin ps o a b s).2 := by cases s <;> first | exact List.prefix_refl _ | exact mk_pre _ _
theorem fin_len (ps : List Part) (o : Op) (a b : Nat) (s : Sh) : (fin ps o a b s).2.length ≤ ps.length + 1 := by cases s <;> first | exact Nat.le_succ _ | exact mk_len _ _
theorem mApply_lt {w : Nat} {ps : List Part} {o : Op} {a b : Nat} (ha : a < ps.length) (hb : b < ps.length) : (mApply w ps o a b).1 < (mApply w ps o a b).2.length := by
  unfold mApply; split
  · exact mk_lt _ _
  · split
    · exact fin_lt hb ha _
    · exact fin_lt ha hb _
theorem mApply_pre (w : Nat) (ps : List Part) (o : Op) (a b : Nat) : ps <+: (mApply w ps o a b).2 := by
  unfold mApply; split
  · exact mk_pre _ _
  · split <;> exact fin_pre _ _ _ _ _
theorem mApply_len (w : Nat) (ps : List Part) (o : Op) (a b : Nat) : (mApply w ps o a b).2.length ≤ ps.length + 1 := by
  unfold mApply; split
  · exact mk_len _ _
  · split <;> exact fin_len _ _ _ _ _
/-! ### well made pools -/
def GetOk (ps : List Part) : Prop := ∀ (k : Nat) (i : Int), ps[k]? = some (Part.get i) → 0 ≤ i ∧ i ≤ 63
def NumOk (w : Nat) (ps : List Part) : Prop := ∀ (k : Nat) (v : Int), ps[k]? = some (Part.num v) → 0 ≤ v ∧ v < 2 ^ w
def Ahead (n : Nat) : Part → Prop | .op _ a b => a < n ∧ b < n | _ => True
def PartOk (w : Nat) : Part → Prop | .num v => 0 ≤ v ∧ v < 2 ^ w | .get i => 0 ≤ i ∧ i ≤ 63 | .op _ _ _ => True
structure Ok (w : Nat) (ps : List Part) : Prop where
  wf : WF ps
  get : GetOk ps
  num : NumOk w ps
theorem ok_nil (w : Nat) : Ok w [] := ⟨fun _ _ _ _ e => by simp at e, fun _ _ e => by simp at e, fun _ _ e => by simp at e⟩
theorem ok_snoc {w : Nat} {ps : List Part} {p : Part} (h : Ok w ps) (ha : Ahead ps.length p) (hp : PartOk w p) : Ok w (ps ++ [p]) := by
  have at_ : ∀ {k : Nat} {q : Part}, (ps ++ [p])[k]? = some q → ps[k]? = some q ∨ (k = ps.length ∧ q = p) := by
    intro k q e
    by_cases hk : k < ps.length
    · rw [List.getElem?_append_left hk] at e; exact .inl e
    · have hl := (List.getElem?_eq_some_iff.mp e).1
      rw [List.length_append, List.length_singleton] at hl
      have ek : k = ps.length := by omega
      subst ek
      rw [List.getElem?_append_right (Nat.le_refl _), Nat.sub_self] at e
      cases e
      exact .inr ⟨rfl, rfl⟩
  refine ⟨fun k o a b e => ?_, fun k i e => ?_, fun k v e => ?_⟩
  · rcases at_ e with e | ⟨rfl, rfl⟩
    · exact h.wf _ _ _ _ e
    · exact ha
  · rcases at_ e with e | ⟨rfl, rfl⟩
    · exact h.get _ _ e
    · exact hp
  · rcases at_ e with e | ⟨rfl, rfl⟩
    · exact h.num _ _ e
    · exact hp
theorem ok_mk {w : Nat} {ps : List Part} {p : Part} (h : Ok w ps) (ha : Ahead ps.length p) (hp : PartOk w p) : Ok w (mk ps p).2 := by
  unfold mk; split
  · exact h
  · exact ok_snoc h ha hp
theorem pow_pos' (w : Nat) : (0 : Int) < 2 ^ w := Int.pow_pos (by decide)
theorem one_lt {w : Nat} (h : 1 ≤ w) : (1 : Int) < 2 ^ w := by
  obtain ⟨k, rfl⟩ : ∃ k, w = k + 1 := ⟨w - 1, by omega⟩
  have := pow_pos' k
  rw [Int.pow_succ]; omega
theorem and_range {w : Nat} {x y : Int} (hx : 0 ≤ x) (hy : 0 ≤ y) (hxw : x < 2 ^ w) (hyw : y < 2 ^ w) : 0 ≤ Builtin.bitAnd x y ∧ Builtin.bitAnd x y < 2 ^ w := by
  obtain ⟨a, rfl⟩ := Int.eq_ofNat_of_zero_le hx
  obtain ⟨b, rfl⟩ := Int.eq_ofNat_of_zero_le hy
  have e : Builtin.bitAnd (a : Int) (b : Int) = ((a &&& b : Nat) : Int) := by simp [Builtin.bitAnd]
  rw [e]
  refine ⟨by omega, ?_⟩
  have h2 : a < 2 ^ w := by exact_mod_cast hxw
  have := Nat.and_lt_two_pow (n := w) b (by exact_mod_cast hyw) |> fun _ => Nat.lt_of_le_of_lt (Nat.and_le_left (n := a) (m := b)) h2
  exact_mod_cast this
theorem or_range {w : Nat} {x y : Int} (hx : 0 ≤ x) (hy : 0 ≤ y) (hxw : x < 2 ^ w) (hyw : y < 2 ^ w) : 0 ≤ Builtin.bitOr x y ∧ Builtin.bitOr x y < 2 ^ w := by
  obtain ⟨a, rfl⟩ := Int.eq_ofNat_of_zero_le hx
  obtain ⟨b, rfl⟩ := Int.eq_ofNat_of_zero_le hy
  have e : Builtin.bitOr (a : Int) (b : Int) = ((a ||| b : Nat) : Int) := by rw [Bits.bitOr_pp (by omega) (by omega), Int.toNat_natCast, Int.toNat_natCast]
  rw [e]
  refine ⟨by omega, ?_⟩
  have := Nat.or_lt_two_pow (x := a) (y := b) (n := w) (by exact_mod_cast hxw) (by exact_mod_cast hyw)
  exact_mod_cast this
theorem xor_range {w : Nat} {x y : Int} (hx : 0 ≤ x) (hy : 0 ≤ y) (hxw : x < 2 ^ w) (hyw : y < 2 ^ w) : 0 ≤ Builtin.bitXor x y ∧ Builtin.bitXor x y < 2 ^ w := by
  obtain ⟨a, rfl⟩ := Int.eq_ofNat_of_zero_le hx
  obtain ⟨b, rfl⟩ := Int.eq_ofNat_of_zero_le hy
  have e : Builtin.bitXor (a : Int) (b : Int) = ((a ^^^ b : Nat) : Int) := by rw [Bits.bitXor_pp (by omega) (by omega), Int.toNat_natCast, Int.toNat_natCast]
  rw [e]
  refine ⟨by omega, ?_⟩
  have := Nat.xor_lt_two_pow (x := a) (y := b) (n := w) (by exact_mod_cast hxw) (by exact_mod_cast hyw)
  exact_mod_cast this
theorem opI_range {w : Nat} (h1 : 1 ≤ w) {o : Op} {x y : Int} (hx : 0 ≤ x ∧ x < 2 ^ w) (hy : 0 ≤ y ∧ y < 2 ^ w) : 0 ≤ opI w o x y ∧ opI w o x y < 2 ^ w := by
  have p := pow_pos' w
  have q := one_lt h1
  cases o <;> simp only [opI]
  · exact ⟨Int.emod_nonneg _ (by omega), Int.emod_lt_of_pos _ p⟩
  · exact ⟨Int.emod_nonneg _ (by omega), Int.emod_lt_of_pos _ p⟩
  · exact and_range hx.1 hy.1 hx.2 hy.2
  · exact or_range hx.1 hy.1 hx.2 hy.2
  · exact xor_range hx.1 hy.1 hx.2 hy.2
  · split <;> omega
  · split <;> omega
theorem word_ok {w : Nat} {ps : List Part} (h : Ok w ps) {a : Nat} {x : Int} (e : wordOf ps a = some x) : 0 ≤ x ∧ x < 2 ^ w := by
  unfold wordOf at e
  cases q : ps[a]? with
  | none => rw [q] at e; cases e
  | some p =>
    rw [q] at e
    cases p with
    | num v => cases e; exact h.num _ _ q
    | get i => cases e
    | op o a b => cases e
theorem ok_fin {w : Nat} (h1 : 1 ≤ w) {ps : List Part} (h : Ok w ps) {o : Op} {a b : Nat} (ha : a < ps.length) (hb : b < ps.length) (s : Sh) : Ok w (fin ps o a b s).2 := by
  cases s
  · exact h
  · exact h
  · exact ok_mk h trivial ⟨Int.le_refl _, pow_pos' w⟩
  · exact ok_mk h trivial ⟨by decide, one_lt h1⟩
  · exact ok_mk h ⟨ha, hb⟩ trivial
theorem ok_mApply {w : Nat} (h1 : 1 ≤ w) {ps : List Part} (h : Ok w ps) {o : Op} {a b : Nat} (ha : a < ps.length) (hb : b < ps.length) : Ok w (mApply w ps o a b).2 := by
  unfold mApply; split
  · rename_i x y ea eb
    exact ok_mk h trivial (opI_range h1 (word_ok h ea) (word_ok h eb))
  · split
    · exact ok_fin h1 h hb ha _
    · exact ok_fin h1 h ha hb _
end My

/-! R3 -/
namespace My
open PySem L2
/-! ### words of parts -/
def evV (w : Nat) (env : Int → Int) (acc : List Int) : Part → Int | .num v => v | .get i => env i | .op o a b => opI w o (acc.getD a 0) (acc.getD b 0)
def evStep (w : Nat) (env : Int → Int) (acc : List Int) (p : Part) : List Int := acc ++ [evV w env acc p]
def evs (w : Nat) (env : Int → Int) (ps : List Part) : List Int := ps.foldl (evStep w env) []
def evAt (w : Nat) (env : Int → Int) (ps : List Part) (k : Nat) : Int := (evs w env ps).getD k 0
theorem evs_snoc (w : Nat) (env : Int → Int) (ps : List Part) (p : Part) : evs w env (ps ++ [p]) = evs w env ps ++ [evV w env (evs w env ps) p] := by
  unfold evs; rw [List.foldl_append]; rfl
theorem snoc_ind {α : Type} {C : List α → Prop} (h0 : C []) (hs : ∀ l x, C l → C (l ++ [x])) : ∀ l, C l := by
  have : ∀ n (l : List α), l.length = n → C l := by
    intro n
    induction n with
    | zero => intro l h; rw [List.length_eq_zero_iff] at h; subst h; exact h0
    | succ n ih =>
      intro l h
      rcases List.eq_nil_or_concat l with rfl | ⟨l', x, rfl⟩
      · cases h
      · rw [List.concat_eq_append] at h ⊢
        rw [List.length_append, List.length_singleton] at h
        exact hs l' x (ih l' (by omega))
  intro l; exact this _ l rfl
theorem evs_len (w : Nat) (env : Int → Int) (ps : List Part) : (evs w env ps).length = ps.length := by
  refine snoc_ind (C := fun ps => (evs w env ps).length = ps.length) rfl (fun l x h => ?_) ps
  rw [evs_snoc, List.length_append, List.length_append, h]; rfl
theorem evs_app (w : Nat) (env : Int → Int) (ps : List Part) : ∀ qs : List Part, ∃ r, evs w env (ps ++ qs) = evs w env ps ++ r := by
  refine snoc_ind ⟨[], by simp⟩ (fun l x h => ?_)
  obtain ⟨r, h⟩ := h
  exact ⟨r ++ [evV w env (evs w env (ps ++ l)) x], by rw [← List.append_assoc, evs_snoc, h, List.append_assoc]⟩
theorem evAt_pre {w : Nat} {env : Int → Int} {ps qs : List Part} (h : ps <+: qs) {k : Nat} (hk : k < ps.length) : evAt w env qs k = evAt w env ps k := by
  obtain ⟨t, rfl⟩ := h
  obtain ⟨r, e⟩ := evs_app w env ps t
  unfold evAt
  rw [e, List.getD_eq_getElem?_getD, List.getD_eq_getElem?_getD, List.getElem?_append_left (by rw [evs_len]; exact hk)]
theorem evAt_eq {w : Nat} {env : Int → Int} {ps : List Part} (wf : WF ps) {k : Nat} {p : Part} (hp : ps[k]? = some p) :
    evAt w env ps k = match p with | .num v => v | .get i => env i | .op o a b => opI w o (evAt w env ps a) (evAt w env ps b) := by
  have hk := (List.getElem?_eq_some_iff.mp hp).1
  have e1 : ps = ps.take (k + 1) ++ ps.drop (k + 1) := (List.take_append_drop _ _).symm
  have et : ps.take (k + 1) = ps.take k ++ [p] := by rw [List.take_add_one, hp]; rfl
  have pre : ps.take k ++ [p] <+: ps := ⟨ps.drop (k + 1), by rw [← et]; exact List.take_append_drop _ _⟩
  have pre0 : ps.take k <+: ps := List.take_prefix _ _
  have hl : (ps.take k).length = k := by rw [List.length_take]; omega
  rw [evAt_pre pre (by rw [List.length_append, hl]; simp)]
  unfold evAt
  rw [evs_snoc, List.getD_eq_getElem?_getD, List.getElem?_append_right (by rw [evs_len, hl]; exact Nat.le_refl _), evs_len, hl, Nat.sub_self]
  cases p with
  | num v => rfl
  | get i => rfl
  | op o a b =>
    have hab := wf _ _ _ _ hp
    show opI w o (evAt w env (ps.take k) a) (evAt w env (ps.take k) b) = opI w o (evAt w env ps a) (evAt w env ps b)
    rw [evAt_pre pre0 (by omega), evAt_pre pre0 (by omega)]
/-! ### a term made again in another pool -/
def look (m : List (Nat × Nat)) (k : Nat) : Nat := ((m.find? fun x => decide (x.1 = k)).map (·.2)).getD 0
def dm (m : List (Nat × Nat)) : List (Key × V) := m.map fun (x : Nat × Nat) => (Sum.inl ((x.1 : Nat) : Int), V.int ((x.2 : Nat) : Int))
theorem dm_len (m : List (Nat × Nat)) : (dm m).length = m.length := by unfold dm; simp
theorem valV_dm (k : Nat) : ∀ m : List (Nat × Nat), valV (dm m) (Sum.inl (k : Int)) = if k ∈ m.map (·.1) then some (.int ((look m k : Nat) : Int)) else none
  | [] => rfl
  | x :: m => by
    have ih := valV_dm k m
    unfold dm at ih ⊢
    rw [List.map_cons, List.map_cons]
    by_cases e : x.1 = k
    · rw [valV_pos (by show Sum.inl ((x.1 : Nat) : Int) = Sum.inl (k : Int); rw [e]), if_pos (by rw [e]; exact List.mem_cons_self)]
      unfold look; rw [List.find?_cons, decide_eq_true e]; rfl
    · rw [valV_neg (fun z => e (by have := Sum.inl.inj z; exact Int.ofNat.inj this)), ih]
      have el : look (x :: m) k = look m k := by unfold look; rw [List.find?_cons, decide_eq_false e]
      rw [el]
      by_cases h : k ∈ m.map (·.1)
      · rw [if_pos h, if_pos (List.mem_cons_of_mem _ h)]
      · rw [if_neg h, if_neg (fun z => h ((List.mem_cons.mp z).resolve_left (fun y => e y.symm)))]
theorem dm_put {m : List (Nat × Nat)} {k v : Nat} (h : k ∉ m.map (·.1)) : putK (dm m) (Sum.inl (k : Int)) (.int (v : Int)) = dm (m ++ [(k, v)]) := by
  rw [putK_new _ (by rw [valV_dm, if_neg h])]; unfold dm; simp
theorem look_mem {m : List (Nat × Nat)} {k : Nat} (h : k ∈ m.map (·.1)) : (k, look m k) ∈ m := by
  induction m with
  | nil => simp at h
  | cons x m ih =>
    by_cases e : x.1 = k
    · have : look (x :: m) k = x.2 := by unfold look; rw [List.find?_cons, decide_eq_true e]; rfl
      rw [this, ← e]; exact List.mem_cons_self
    · have el : look (x :: m) k = look m k := by unfold look; rw [List.find?_cons, decide_eq_false e]
      rw [el]
      exact List.mem_cons_of_mem _ (ih ((List.mem_cons.mp h).resolve_left (fun y => e y.symm)))
theorem look_snoc_old {m : List (Nat × Nat)} {k : Nat} (x : Nat × Nat) (h : k ∈ m.map (·.1)) : look (m ++ [x]) k = look m k := by
  induction m with
  | nil => simp at h
  | cons y m ih =>
    by_cases e : y.1 = k
    · unfold look; rw [List.cons_append, List.find?_cons, List.find?_cons, decide_eq_true e]
    · have := ih ((List.mem_cons.mp h).resolve_left (fun z => e z.symm))
      unfold look at this ⊢; rw [List.cons_append, List.find?_cons, List.find?_cons, decide_eq_false e]; exact this
theorem look_snoc_new {m : List (Nat × Nat)} {k v : Nat} (h : k ∉ m.map (·.1)) : look (m ++ [(k, v)]) k = v := by
  induction m with
  | nil => unfold look; simp
  | cons y m ih =>
    have e : ¬ y.1 = k := fun e => h (by rw [← e]; exact List.mem_cons_self)
    have := ih (fun z => h (List.mem_cons_of_mem _ z))
    unfold look at this ⊢; rw [List.cons_append, List.find?_cons, decide_eq_false e]; exact this
def cstepR (w2 : Nat) (ps : List Part) (st : List Part × List (Nat × Nat)) (k : Nat) : Nat × List Part := match ps[k]? with
  | some (.op o a b) => mApply w2 st.1 o (look st.2 a) (look st.2 b)
  | some (.get i) => mk st.1 (.get i)
  | some (.num v) => mk st.1 (.num (v % 2 ^ w2))
  | none => (0, st.1)
def cstep (w2 : Nat) (ps : List Part) (st : List Part × List (Nat × Nat)) (k : Nat) : List Part × List (Nat × Nat) := ((cstepR w2 ps st k).2, st.2 ++ [(k, (cstepR w2 ps st k).1)])
def mCarry (w2 : Nat) (ps : List Part) (ks : List Nat) (qs : List Part) : List Part × List (Nat × Nat) := ks.foldl (cstep w2 ps) (qs, [])
/-- what holds behind the numbers done -/
structure CInv (w2 : Nat) (ps qs : List Part) (done : List Nat) (st : List Part × List (Nat × Nat)) : Prop where
  keys : st.2.map (fun (x : Nat × Nat) => x.1) = done
  lt : ∀ x : Nat × Nat, x ∈ st.2 → x.2 < st.1.length
  len : st.1.length ≤ qs.length + done.length
  ok : Ok w2 st.1
  pre : qs <+: st.1
theorem CInv.look {w2 : Nat} {ps qs : List Part} {done : List Nat} {st : List Part × List (Nat × Nat)} (c : CInv w2 ps qs done st) {a : Nat} (h : a ∈ done) : My.look st.2 a < st.1.length :=
  c.lt _ (look_mem (by rw [c.keys]; exact h))
theorem CInv.start {w2 : Nat} {ps qs : List Part} (h : Ok w2 qs) : CInv w2 ps qs [] (qs, []) := ⟨rfl, fun _ m => by simp at m, Nat.le_refl _, h, List.prefix_refl _⟩
theorem CInv.step {w2 : Nat} (h1 : 1 ≤ w2) {ps qs : List Part} {done : List Nat} {st : List Part × List (Nat × Nat)} {k : Nat} {p : Part} (c : CInv w2 ps qs done st) (hg : GetOk ps) (hp : ps[k]? = some p)
    (hab : ∀ o a b, p = Part.op o a b → a ∈ done ∧ b ∈ done) : CInv w2 ps qs (done ++ [k]) (cstep w2 ps st k) := by
  have key : (cstepR w2 ps st k).1 < (cstepR w2 ps st k).2.length ∧ (cstepR w2 ps st k).2.length ≤ st.1.length + 1 ∧ Ok w2 (cstepR w2 ps st k).2 ∧ st.1 <+: (cstepR w2 ps st k).2 := by
    unfold cstepR
    rw [hp]
    cases p with
    | num v => exact ⟨mk_lt _ _, mk_len _ _, ok_mk c.ok trivial ⟨Int.emod_nonneg _ (by have := pow_pos' w2; omega), Int.emod_lt_of_pos _ (pow_pos' w2)⟩, mk_pre _ _⟩
    | get i => exact ⟨mk_lt _ _, mk_len _ _, ok_mk c.ok trivial (hg _ _ hp), mk_pre _ _⟩
    | op o a b =>
      obtain ⟨ha, hb⟩ := hab o a b rfl
      exact ⟨mApply_lt (c.look ha) (c.look hb), mApply_len _ _ _ _ _, ok_mApply h1 c.ok (c.look ha) (c.look hb), mApply_pre _ _ _ _ _⟩
  refine ⟨?_, fun x hx => ?_, ?_, key.2.2.1, c.pre.trans key.2.2.2⟩
  · show (st.2 ++ [(k, (cstepR w2 ps st k).1)]).map (fun (x : Nat × Nat) => x.1) = _
    rw [List.map_append, c.keys]; rfl
  · rcases List.mem_append.mp hx with hx | hx
    · have := c.lt x hx
      have := key.2.2.2.length_le
      show x.2 < (cstepR w2 ps st k).2.length
      omega
    · simp at hx; subst hx; exact key.1
  · show (cstepR w2 ps st k).2.length ≤ _
    have := c.len
    rw [List.length_append, List.length_singleton]; omega
theorem asc_take {ks : List Nat} (h : ks.Pairwise (· < ·)) {i k z : Nat} (hk : ks[i]? = some k) (hz : z ∈ ks) (hzk : z < k) : z ∈ ks.take i := by
  obtain ⟨j, hj, rfl⟩ := List.getElem_of_mem hz
  have hi := (List.getElem?_eq_some_iff.mp hk).1
  have ek := (List.getElem?_eq_some_iff.mp hk).2
  by_cases hji : j < i
  · exact List.mem_take_iff_getElem.mpr ⟨j, by omega, rfl⟩
  · exfalso
    by_cases e : j = i
    · subst e; omega
    · have := List.pairwise_iff_getElem.mp h i j hi hj (by omega)
      omega
end My

/-! R4 -/
namespace My
open PySem L2
def dv (f : Nat → Int) (l : List Nat) : List (Key × V) := l.map fun (k : Nat) => (Sum.inl ((k : Nat) : Int), V.int (f k))
theorem dv_len (f : Nat → Int) (l : List Nat) : (dv f l).length = l.length := by unfold dv; simp
theorem valV_dv (f : Nat → Int) (k : Nat) : ∀ l : List Nat, valV (dv f l) (Sum.inl (k : Int)) = if k ∈ l then some (.int (f k)) else none
  | [] => rfl
  | j :: l => by
    have ih := valV_dv f k l
    unfold dv at ih ⊢
    rw [List.map_cons]
    by_cases e : j = k
    · subst e
      rw [valV_pos rfl, if_pos List.mem_cons_self]
    · rw [valV_neg (fun z => e (by have := Sum.inl.inj z; exact Int.ofNat.inj this)), ih]
      by_cases m : k ∈ l
      · rw [if_pos m, if_pos (List.mem_cons_of_mem _ m)]
      · rw [if_neg m, if_neg (fun z => m ((List.mem_cons.mp z).resolve_left (fun y => e y.symm)))]
theorem dv_put {f : Nat → Int} {l : List Nat} {k : Nat} (h : k ∉ l) : putK (dv f l) (Sum.inl (k : Int)) (.int (f k)) = dv f (l ++ [k]) := by
  rw [putK_new _ (by rw [valV_dv, if_neg h])]; unfold dv; simp
theorem not_in_take {ks : List Nat} (h : ks.Pairwise (· < ·)) {j k : Nat} (hk : ks[j]? = some k) : k ∉ ks.take j := by
  intro hm
  obtain ⟨j', hj', e⟩ := List.mem_take_iff_getElem.mp hm
  have hjl := (List.getElem?_eq_some_iff.mp hk).1
  have ejk := (List.getElem?_eq_some_iff.mp hk).2
  have := List.pairwise_iff_getElem.mp h j' j (by omega) hjl (by omega)
  omega
theorem take_snoc {α : Type} {l : List α} {j : Nat} {x : α} (h : l[j]? = some x) : l.take (j + 1) = l.take j ++ [x] := by rw [List.take_add_one, h]; rfl
def envOf (ws : List Int) : Int → Int := fun g => ws.getD g.toNat 0
end My

/-! R5 -/
namespace My
open PySem L2
/-! ### parts compared -/
def Part.pd : Part → PyData
  | .num v => .tuple [.str "num", .int v] | .get i => .tuple [.str "get", .int i] | .op o a b => .tuple [.str o.s, .int (a : Nat), .int (b : Nat)]
theorem dp_part {K : PySem.W.Frag} {H : Hp} {t : Addr} {p : Part} (h : H t = some (.tup p.vals)) : Dp K H (.ref t) p.pd := by
  cases p with
  | num v => exact .tup (SqT.of h) (.cons (.str _) (.cons (.int _) .nil))
  | get v => exact .tup (SqT.of h) (.cons (.str _) (.cons (.int _) .nil))
  | op o a b => exact .tup (SqT.of h) (.cons (.str _) (.cons (.int _) (.cons (.int _) .nil)))
theorem shaped_part (p : Part) : SeqAt.shaped p.pd = true := by
  have e1 : PyData.strOk (Str.ofString "num") = true := by decide +kernel
  have e2 : PyData.strOk (Str.ofString "get") = true := by decide +kernel
  have e3 : ∀ o : Op, PyData.strOk o.s = true := by intro o; cases o <;> decide +kernel
  cases p <;> simp [SeqAt.shaped, Part.pd, PyData.canLay0, PyData.canLayAll0, PyData.depth, PyData.depthAll, e1, e2, e3]
theorem beq_ofs (o o' : Op) : (o.s == o'.s) = decide (o = o') := by cases o <;> cases o' <;> decide +kernel
theorem eqv_pd (p q : Part) : PyData.eqv p.pd q.pd = decide (p = q) := by
  have n1 : (("num" : Str) == "get") = false := by decide +kernel
  have n2 : (("get" : Str) == "num") = false := by decide +kernel
  have n3 : (("get" : Str) == "get") = true := by decide +kernel
  have n4 : (("num" : Str) == "num") = true := by decide +kernel
  have bi : ∀ a b : Int, (a == b) = decide (a = b) := fun a b => by by_cases e : a = b <;> simp [e]
  have dec : ∀ {A B : Prop} [Decidable A] [Decidable B], (A ↔ B) → decide A = decide B := fun h => by simp [h]
  cases p with
  | num v => cases q with
    | num w => simp only [Part.pd, PyData.eqv, PyData.eqvAll, n4, bi, Bool.true_and, Bool.and_true]; exact dec ⟨fun e => by rw [e], fun e => by injection e⟩
    | get w => simp only [Part.pd, PyData.eqv, PyData.eqvAll, n1, Bool.false_and]; simp
    | op o a b => simp only [Part.pd, PyData.eqv, PyData.eqvAll, Bool.and_false]; simp
  | get v => cases q with
    | num w => simp only [Part.pd, PyData.eqv, PyData.eqvAll, n2, Bool.false_and]; simp
    | get w => simp only [Part.pd, PyData.eqv, PyData.eqvAll, n3, bi, Bool.true_and, Bool.and_true]; exact dec ⟨fun e => by rw [e], fun e => by injection e⟩
    | op o a b => simp only [Part.pd, PyData.eqv, PyData.eqvAll, Bool.and_false]; simp
  | op o a b => cases q with
    | num w => simp only [Part.pd, PyData.eqv, PyData.eqvAll, Bool.and_false]; simp
    | get w => simp only [Part.pd, PyData.eqv, PyData.eqvAll, Bool.and_false]; simp
    | op o' a' b' =>
      simp only [Part.pd, PyData.eqv, PyData.eqvAll, beq_ofs, bi, Bool.and_true]
      by_cases e1 : o = o' <;> by_cases e2 : a = a' <;> by_cases e3 : b = b' <;> simp [e1, e2, e3]
      all_goals (first | (intro z; omega) | omega | skip)
theorem eqT {K : PySem.W.Frag} {H : Hp} {t u : Addr} {p q : Part} {Q : VK} (ht : H t = some (.tup p.vals)) (hu : H u = some (.tup q.vals)) (h : Q (.bl (decide (p = q))) H) : rEqD K (.ref t) (.ref u) H Q :=
  ⟨p.pd, q.pd, dp_part ht, dp_part hu, shaped_part p, shaped_part q, by rw [eqv_pd]; exact h⟩
theorem idxOf_le {a : Part} : ∀ {l : List Part} {i : Nat}, l[i]? = some a → l.idxOf a ≤ i
  | [], i, h => by simp at h
  | x :: l, 0, h => by
    have e : x = a := Option.some.inj h
    subst e; simp
  | x :: l, i + 1, h => by
    have ih := idxOf_le (l := l) (i := i) (a := a) h
    rw [List.idxOf_cons]
    cases (x == a) <;> simp <;> omega
theorem word_iff (p : Part) (v : Int) : p.word = some v ↔ p = .num v := by cases p <;> simp [Part.word]
end My

/-! R6 -/
namespace My
open PySem L2
theorem ixN_nat {n a : Nat} (h : a < n) : ixN n (a : Int) = some a := by
  unfold ixN
  rw [if_pos (by omega), if_pos (by omega)]; rfl
/-! ### marks, from the back -/
structure MInv (ps : List Part) (i : Nat) (m : List Bool) (done : Nat) : Prop where
  len : m.length = ps.length
  rch : ∀ k, m[k]? = some true → Reach ps i k
  root : m[i]? = some true
  clo : ∀ k o a b, ps.length ≤ k + done → m[k]? = some true → ps[k]? = some (Part.op o a b) → m[a]? = some true ∧ m[b]? = some true
theorem set_mark {m : List Bool} {a k : Nat} (h : (m.set a true)[k]? = some true) : k = a ∨ m[k]? = some true := by
  rw [List.getElem?_set] at h
  split at h
  · rename_i e; exact .inl e.symm
  · exact .inr h
theorem set_mono {m : List Bool} {a k : Nat} (h : m[k]? = some true) : (m.set a true)[k]? = some true := by
  rw [List.getElem?_set]
  split
  · rename_i e; subst e
    rw [if_pos (List.getElem?_eq_some_iff.mp h).1]
  · exact h
theorem set_self {m : List Bool} {a : Nat} (h : a < m.length) : (m.set a true)[a]? = some true := by
  rw [List.getElem?_set, if_pos rfl, if_pos h]
theorem MInv.start {ps : List Part} {i : Nat} (hi : i < ps.length) : MInv ps i ((List.replicate ps.length false).set i true) 0 := by
  refine ⟨by simp, fun k h => ?_, set_self (by simpa using hi), fun k o a b hk h e => ?_⟩
  · rcases set_mark h with rfl | h
    · exact .self
    · rw [List.getElem?_replicate] at h
      split at h <;> cases h
  · have := (List.getElem?_eq_some_iff.mp e).1; omega
theorem MInv.skip {ps : List Part} {i at_ done : Nat} {m : List Bool} (h : MInv ps i m done) (e : at_ + done + 1 = ps.length) (no : m[at_]? = some true → ∀ o a b, ps[at_]? ≠ some (Part.op o a b)) : MInv ps i m (done + 1) :=
  ⟨h.len, h.rch, h.root, fun k o a b hk hm hp => by
    by_cases ek : k = at_
    · subst ek; exact absurd hp (no hm o a b)
    · exact h.clo k o a b (by omega) hm hp⟩
theorem MInv.mark {ps : List Part} {i at_ done : Nat} {m : List Bool} {o : Op} {a b : Nat} (h : MInv ps i m done) (wf : WF ps) (e : at_ + done + 1 = ps.length) (hm : m[at_]? = some true) (hp : ps[at_]? = some (Part.op o a b)) : MInv ps i ((m.set a true).set b true) (done + 1) := by
  have ab := wf _ _ _ _ hp
  have hr := h.rch _ hm
  refine ⟨by simp [h.len], fun k hk => ?_, set_mono (set_mono h.root), fun k o' a' b' hk hm' hp' => ?_⟩
  · rcases set_mark hk with rfl | hk
    · exact .right hr hp
    · rcases set_mark hk with rfl | hk
      · exact .left hr hp
      · exact h.rch _ hk
  · by_cases ek : k = at_
    · subst ek
      rw [hp] at hp'
      cases hp'
      exact ⟨set_mono (set_self (by rw [h.len]; omega)), set_self (by rw [List.length_set, h.len]; omega)⟩
    · have hk2 : m[k]? = some true := by
        rcases set_mark hm' with rfl | hm'
        · omega
        · rcases set_mark hm' with rfl | hm'
          · omega
          · exact hm'
      have := h.clo k o' a' b' (by omega) hk2 hp'
      exact ⟨set_mono (set_mono this.1), set_mono (set_mono this.2)⟩
def markL (m : List Bool) (j : Nat) : List Nat := (List.range j).filter fun k => decide (m[k]? = some true)
theorem markL_yes {m : List Bool} {j : Nat} (h : m[j]? = some true) : markL m (j + 1) = markL m j ++ [j] := by
  unfold markL; rw [List.range_succ, List.filter_append]; simp [h]
theorem markL_no {m : List Bool} {j : Nat} (h : ¬ m[j]? = some true) : markL m (j + 1) = markL m j := by
  unfold markL; rw [List.range_succ, List.filter_append]; simp [h]
theorem markL_len (m : List Bool) (j : Nat) : (markL m j).length ≤ j := by
  unfold markL; exact Nat.le_trans (List.length_filter_le _ _) (by simp)
theorem MInv.done {ps : List Part} {i : Nat} {m : List Bool} (h : MInv ps i m ps.length) (wf : WF ps) (hi : i < ps.length) : ReachL ps i (markL m ps.length) := by
  refine ⟨List.Pairwise.filter _ List.pairwise_lt_range, fun k => ?_⟩
  have back : Reach ps i k → m[k]? = some true := by
    intro r
    induction r with
    | self => exact h.root
    | left r e ih => exact (h.clo _ _ _ _ (by omega) ih e).1
    | right r e ih => exact (h.clo _ _ _ _ (by omega) ih e).2
  unfold markL
  rw [List.mem_filter, List.mem_range]
  exact ⟨fun z => h.rch k (of_decide_eq_true z.2), fun r => ⟨by have := r.le wf; omega, decide_eq_true (back r)⟩⟩
end My

/-! R7 -/
namespace My
open PySem L2
theorem dpAll_parts {K : PySem.W.Frag} {H : Hp} : ∀ (ts : List Addr) (ps : List Part), ts.length = ps.length → (∀ (i : Nat) (p : Part), ps[i]? = some p → ∃ t, ts[i]? = some t ∧ H t = some (.tup p.vals)) → DpAll K H (ts.map V.ref) (ps.map Part.pd)
  | [], [], _, _ => .nil
  | [], p :: ps, h, _ => by cases h
  | t :: ts, [], h, _ => by cases h
  | t :: ts, p :: ps, h, g => by
    obtain ⟨t', e, ht⟩ := g 0 p rfl
    cases e
    exact .cons (dp_part ht) (dpAll_parts ts ps (by simpa using h) fun i q e => g (i + 1) q e)
theorem dp_list {K : PySem.W.Frag} {H : Hp} {l : Addr} {ps : List Part} (h : LAt H l ps) : Dp K H (.ref l) (.list (ps.map Part.pd)) := by
  obtain ⟨ts, h1, h2, h3⟩ := h
  exact .lst (SqL.of h1) (dpAll_parts ts ps h2 h3)
theorem depth_part (p : Part) : p.pd.depth ≤ 2 := by cases p <;> simp [Part.pd, PyData.depth, PyData.depthAll]
theorem lay_part (p : Part) : p.pd.canLay0 = true := by
  have := shaped_part p
  unfold SeqAt.shaped at this
  simp at this; exact this.1
theorem depthAll_parts : ∀ ps : List Part, PyData.depthAll (ps.map Part.pd) ≤ 3
  | [] => by simp [PyData.depthAll]
  | p :: ps => by
    have := depthAll_parts ps
    have := depth_part p
    simp [PyData.depthAll]; omega
theorem layAll_parts : ∀ ps : List Part, PyData.canLayAll0 (ps.map Part.pd) = true
  | [] => by simp [PyData.canLayAll0]
  | p :: ps => by
    simp [PyData.canLayAll0, layAll_parts ps, lay_part p]
theorem shaped_list (ps : List Part) : SeqAt.shaped (.list (ps.map Part.pd)) = true := by
  have h1 := layAll_parts ps
  have h2 := depthAll_parts ps
  simp [SeqAt.shaped, PyData.canLay0, PyData.depth, h1]; omega
theorem eqvAll_parts : ∀ ps : List Part, PyData.eqvAll (ps.map Part.pd) (ps.map Part.pd) = true
  | [] => by simp [PyData.eqvAll]
  | p :: ps => by simp [PyData.eqvAll, eqv_pd, eqvAll_parts ps]
theorem eqL {K : PySem.W.Frag} {H : Hp} {l m : Addr} {ps : List Part} {Q : VK} (hl : LAt H l ps) (hm : LAt H m ps) (h : Q (.bl true) H) : rEqD K (.ref l) (.ref m) H Q :=
  ⟨_, _, dp_list hl, dp_list hm, shaped_list ps, shaped_list ps, by
    have : PyData.eqv (.list (ps.map Part.pd)) (.list (ps.map Part.pd)) = true := by simp [PyData.eqv, eqvAll_parts]
    rw [this]; exact h⟩
end My

/-! Kit3 -/
/-! own exception classes over Exception (or over own classes over it) with an __init__ that stores -/
namespace My
open PySem PySem.Spec PyProof.Rows L2
abbrev exB : List Value := [.type "Exception", .type "BaseException", .type "object"]
theorem exB_has (Y : String) (bm : List Value) (h : PySem.W.excTail exB bm = true) : bm.contains (.type Y) = exB.contains (.type Y) := PySem.W.excTail_contains Y bm h
section
open Builtin Builtin.ObjectAttr
variable {prog : Program} {w : World} {A : Around} {R : Result → Shared → Prop} {hp : Heap} {g : Array GenState} {d : Drawn} {t : Nat} {os : OsState}
/-- the first field -/
theorem osaE {K : PySem.W.Frag} {nm : Str} {tk : Tok} {u : Value} {x C : Addr} {fv : Array Value} {cd : ClassData} {tl : List Value}
    (X : K.In hp) (ox : hp.get? x = some { cls := .ref C, data := .fields fv }) (ec : PySem.W.clsIn K C = some cd) (em : cd.mro = .ref C :: tl) (et : PySem.W.excTail exB tl = true) (hh : cd.hasDict = true) (no : PySem.W.findIn K (.ref C) nm = some none)
    (fin : ∀ h' tk' dx, (∀ b o, b ≠ x → hp.get? b = some o → h'.get? b = some o) → hp.objs.size ≤ dx → dx ≠ x → h'.get? x = some { cls := .ref C, dict := some dx, data := .fields fv } →
      h'.Ns1 dx (fun y => if y = nm then some u else none) → R (.ok (.ret .none)) ⟨h', g, d, tk', os⟩) :
    codeAny (model prog w) A (.call (.builtin "object.__setattr__") ⟨[.ref x, .str nm tk, u], []⟩) R ⟨hp, g, d, t, os⟩ := by
  have At : PySem.W.InstAt hp x { cls := .ref C, data := .fields fv } C none := ⟨ox, rfl, rfl, trivial⟩
  have SO := F.store_object
  have me : cd.mro.isEmpty = false := by rw [em]; rfl
  have mo : cd.mro.contains (.type "object") = true := by rw [em, List.contains_cons, exB_has _ _ et, show exB.contains (.type "object") = true by decide +kernel, Bool.or_true]
  have xs : x ≠ hp.objs.size := Nat.ne_of_lt (Heap.lt_size ox)
  have kind : PySem.W.Looks (model prog w) hp (isInstance (.ref x) (.type "object")) true := At.type.andThen (PySem.W.looks_mroIn X (by unfold PySem.W.mroIn; rw [ec, Option.bind_some, if_neg (by rw [me]; decide), mo]))
  refine codeAny_call_builtin SO.slot.plain SO.entry (@PySem.W.check_slot (model prog w) _ _ ⟨hp, g, d, t, os⟩ "object.__setattr__" "object" "__setattr__" (.ref x) [.str nm tk, u] [] _ SO.kind SO.split kind (SO.args (.ref x) (.str nm tk) u) ?_)
  have lm : PySem.W.Looks (model prog w) hp (mroOf (.ref C)) cd.mro := (PySem.W.looks_clsIn X ec).andThen .now
  have l0 : PySem.W.Looks (model prog w) hp (storeTaker? none) none := .now
  have lc : PySem.W.Looks (model prog w) hp (classData C) cd := PySem.W.looks_clsIn X ec
  rw [PySem.W.osa_eq, refuse_eq]
  refine wpAny_bind (wpAny_bind (At.type.at (wpAny_bind (lm.at ?_))))
  rw [em, refuseLoop_ref, PySem.W.excTail_pass _ (PySem.F.store_Exception.passes _) _ et]
  refine wpAny_pure (wpAny_bind (At.type.at (wpAny_bind ((PySem.W.looks_findIn X no).at (wpAny_bind (l0.at ?_))))))
  show wpAny _ _ (storeInOwnDict (.ref x) (.ref C) (.str nm tk) nm u false) _ _ _
  obtain ⟨_, _, _, _, _, hd, _, _, _, _, _⟩ := cd
  simp only at hh
  subst hh
  unfold storeInOwnDict ownDictForStores
  repeat (first | with_reducible refine PySem.HandSPX.store_in_new ?_ ?_ | with_reducible refine wpAny_loadPart_at ox ?_ | with_reducible refine lc.at ?_ | wp_step)
  · exact ⟨_, #[], _, (Heap.get?_update_ne _ _ _ _ xs.symm).trans (Heap.get?_push_at rfl rfl), rfl, fun e he => absurd he (by simp), fun _ => rfl⟩
  · intro h1 tk1 n1 s1
    have ox1 : (hp.push { cls := .type "dict", data := .dict #[] }).get? x = some { cls := .ref C, data := .fields fv } := Heap.get?_push_of_some _ ox
    exact fin h1 tk1 hp.objs.size (fun b o hb ho => (s1.2 b (Nat.ne_of_lt (Heap.lt_size ho))).trans ((Heap.get?_update_ne _ _ _ _ hb).trans (Heap.get?_push_of_some _ ho))) (Nat.le_refl _) xs.symm ((s1.2 x xs).trans (Heap.get?_update_self _ ox1 rfl)) n1
end
/-- what the written part says of such a class -/
structure OexE (K : PySem.W.Frag) (C : Addr) : Prop where
  row : ∃ nm q N bs bm sn sub ab col dd k0 k1 k2 k3 k5, K.lookup C = some (excClassObj nm q C N bs bm true sn sub ab col dd k0 k1 k2 k3 k5 "Exception.__new__") ∧ PySem.W.excTail exB bm = true
  sa : PySem.W.findIn K (.ref C) "__setattr__" = some (some (.builtin "object.__setattr__"))
  ex : PySem.W.subIn K (.ref C) (.type "BaseException") = some true
  ty : PySem.W.typeIn K (.ref C) = some (.type "type")
  kp : PySem.W.keepIn K (.ref C) = true
section
variable {X : Cx} {pins : List (Addr × Obj)} {σ : L2.St} {H : Hp} {s : Shared} {a C dx : Addr} {f : Str} {y : V} {u : Value} {Q : Unit → Shared → Prop} {E : Value → Shared → Prop} {A : Around}
theorem ost1E (T : OexE X.K C) (I : Inv X pins σ H s) (ha : H a = some (exo a C none)) (no : PySem.W.findIn X.K (.ref C) f = some none) (ry : RelV y u)
    (fin : ∀ dx s', H dx = none → dx ≠ a → Inv X pins σ (upd (upd H dx (exd dx [(f, y)])) a (exo a C (some dx))) s' → Q () s') : wpAny (model X.prog X.w) A (setAttr (.ref a) f u) Q E s := by
  obtain ⟨nm, q, N, bs, bm, sn, sub, ab, col, dd, k0, k1, k2, k3, k5, lk, tl⟩ := T.row
  have ec : PySem.W.clsIn X.K C = some { name := nm, bases := bs, mro := .ref C :: bm, ns := N, qualname := q, hasDict := true, slotNames := sn, subclasses := sub, abstract := ab, collection := col, hasDel := false } := by
    unfold PySem.W.clsIn; rw [lk] <;> rfl
  obtain ⟨t1, oa⟩ := exo_at I.hok ha
  obtain ⟨hp, g, d, t, os⟩ := s
  refine PySem.W.set_plain I.kIn (ox := { cls := .ref C, dict := none, data := .fields #[.ref t1, .none, .none, .none, .bool false, .none] }) (od := none) ⟨oa, rfl, rfl, trivial⟩ T.sa ?_
  refine osaE I.kIn oa ec rfl tl rfl no fun h1 tk1 dx kp big dxa hx1 hn1 => ?_
  have hdx : H dx = none := I.hok.fresh big
  have off : ∀ {b : Addr} {o : Obj}, hp.get? b = some o → b ≠ dx := fun {b o} e => Nat.ne_of_lt (Nat.lt_of_lt_of_le (Heap.lt_size e) big)
  have offa : ∀ {b : Addr}, H b = none → b ≠ a := fun {b} e z => by
    rw [z, ha] at e; cases e
  have U : Un X.fs [] H (upd (upd H dx (exd dx [(f, y)])) a (exo a C (some dx))) hp h1 := by
    constructor
    case keep => exact fun b o e n _ _ => kp b o (offa n) e
    case slot => exact fun b o e n _ _ => ⟨o.slots, kp b o (offa n) e⟩
    case free => exact fun b o e n _ => by rw [upd_ne (offa n), upd_ne (off e)]; exact n
    case there =>
      intro b o e _
      by_cases hb : b = a
      · subst hb; exact ⟨_, hx1⟩
      · exact ⟨o, kp b o hb e⟩
    case tups => exact fun b xs e => by rw [upd_ne (at_ne ha e exo_tup), upd_ne (ne_of_none e hdx)]; exact e
    case frzs => exact fun b o v e => by rw [upd_ne (at_ne ha e exo_frz), upd_ne (ne_of_none e hdx)]; exact e
    case tbls => exact fun b ps e => ⟨#[], by rw [upd_ne (at_ne ha e exo_tbl), upd_ne (ne_of_none e hdx), e]; simp⟩
  refine fin dx _ hdx dxa (I.un (t' := tk1) U fun b o e => ?_)
  by_cases hb : b = a
  · subst hb
    rw [upd_same] at e; cases e
    exact exo_ok hx1
  rw [upd_ne hb] at e
  by_cases hd : b = dx
  · subst hd
    rw [upd_same] at e; cases e
    exact exd_ok hn1 (relO_put (fs := []) ry fun _ => True.intro)
  rw [upd_ne hd] at e
  refine (I.hok b o e).stay (fun c v hc z => kp c v ?_ z) (fun c hc => ?_) fun c xs hc => ?_
  · rcases hc with hc | hc
    · rw [hc]; exact hb
    · exact at_ne ha hc exo_own
  · rw [upd_ne (at_ne ha hc exo_own), upd_ne (ne_of_none hc hdx)]; exact hc
  · rw [upd_ne (at_ne ha hc exo_tup), upd_ne (ne_of_none hc hdx)]; exact hc
end
/-- self.f = e within such an __init__: the first one -/
def tOst1 (K : PySem.W.Frag) (f : Str) (to te : TE) : TS := fun D σ H => te σ H fun y H1 => to σ H1 fun x H2 => ∃ a C : Addr, x = .ref a ∧ OexE K C ∧ PySem.W.findIn K (.ref C) f = some none ∧ H2 a = some (exo a C none) ∧
  ∀ dx, H2 dx = none → dx ≠ a → D.nx σ (upd (upd H2 dx (exd dx [(f, y)])) a (exo a C (some dx)))
theorem ps_ost1 {X : Cx} {o e : Expr} {to te : TE} {f : Str} {p' pos : Pos} (ho : PE X o to) (he : PE X e te) (hs : swapsWith e (some (.Attribute o f p')) pos.line X.env = pure false := by rfl) : PS X (.Assign [.Attribute o f p'] e pos) (tOst1 X.K f to te) := by
  refine ⟨fun pins s σ H D I h => plainObj_wpAny_Assign_Attribute (thn (he.run pins s σ H _ I h) fun v s1 ⟨y, H1, I1, r1, q1⟩ => thn (ho.run pins s1 σ H1 _ I1 q1) fun u s2 ⟨x, H2, I2, r2, a, C, ex, T, no, ea, q⟩ => ?_) hs⟩
  subst ex
  obtain rfl : u = Value.ref a := r2
  exact ost1E T I2 ea no r1 fun dx s' n ne J => ⟨σ, _, J, q dx n ne⟩
/-- raise C(e, ..) where C's __init__ keeps sp -/
def tMkE (C : Addr) (sp : Sp) (ta : TA) : L2.St → Hp → XK → Prop := fun σ H Q => ta σ H fun vs H1 => vs.length ≤ 1000 ∧ ∀ a, H1 a = none → sp (.ref a :: vs) (upd H1 a (exo a C none))
  (fun v H2 => v = .non ∧ ∃ (d : Addr) (fs : List (Str × V)), H2 a = some (exo a C (some d)) ∧ H2 d = some (exd d fs) ∧ H1 d = none ∧ Q (.ref C) (some d) (upd (del H2 a) d (.xd fs))) (fun _ _ _ => False)
theorem pmk_E {X : Cx} {e : Expr} {es : List Expr} {ta : TA} {p pos : Pos} {x : Str} {C fI : Addr} {k : Nat} {fd : FuncData} {ps : List Str} {sp : Sp} (T : OexE X.K C) (iC : PySem.W.findIn X.K (.ref C) "__init__" = some (some (.ref fI))) (tI : PySem.W.typeIn X.K (.ref fI) = some (.type "function"))
    (G : FnOk X.prog X.w X.K X.mg X.base CX0 k fI fd ps sp) (hr : Room (k + 1) X.A) (hb : Binds X.K fd ps []) (hg : Gl X x) (hm : X.mg x = some (.ref C)) (ha : PA X (e :: es) ta)
    (nd : (x == ("__debug__" : Str)) = false := by decide) (he : starEach (e :: es) X.env = (false, eval e X.env) :: starEach es X.env := by rfl) (hpl : (backTo pos (starEach es X.env)).any (·.1) = false := by rfl) :
    PMk X (.Call (.Name x p) (e :: es) [] pos) (tMkE C sp ta) := by
  intro pins s σ H Q I h
  obtain ⟨nm, q, N, bs, bm, sn, sub, ab, col, dd, k0, k1, k2, k3, k5, lk, tl⟩ := T.row
  refine wpAny_Call_Name_kw (ld_glob I hg hm ?_ nd)
  refine PySem.W.callWith_K (h₀ := X.base) I.ok.mod.kin T.kp (thn (ha.run pos pins s σ H _ I h) fun us s1 ⟨vs, H1, I1, r1, small, q1⟩ => ⟨I1.kIn, ?_⟩) he hpl
  show wpAny _ _ (call (.ref C) us) _ _ _
  obtain ⟨hp, g, dr, tk, os⟩ := s1
  have le1 : hp.objs.size ≤ hp.objs.size + 1 := Nat.le_succ _
  have hq := q1 (hp.objs.size + 1) (I1.hok.fresh le1)
  have up : ∀ b o, hp.get? b = some o → ((hp.push (PySem.W.kdv_tup us)).push (PySem.HandSPX.excO C hp.objs.size)).get? b = some o := fun b o z => Heap.get?_push_of_some _ (Heap.get?_push_of_some _ z)
  have top : ((hp.push (PySem.W.kdv_tup us)).push (PySem.HandSPX.excO C hp.objs.size)).get? (hp.objs.size + 1) = some (PySem.HandSPX.excO C hp.objs.size) := by heap_get
  have J : Inv X pins σ (upd H1 (hp.objs.size + 1) (exo (hp.objs.size + 1) C none)) ⟨(hp.push (PySem.W.kdv_tup us)).push (PySem.HandSPX.excO C hp.objs.size), g, dr, tk, os⟩ :=
    I1.laid (t' := tk) (a := hp.objs.size + 1) (o := exo (hp.objs.size + 1) C none) up le1 (exo_ok top)
  have rel : Vals (V.ref (hp.objs.size + 1) :: vs) (Value.ref (hp.objs.size + 1) :: us) := .cons rfl r1
  have ln : (Value.ref (hp.objs.size + 1) :: us).length = ps.length := by
    have z := rel.length
    rw [G.len _ _ _ _ hq] at z
    exact z.symm
  have lu : us.length ≤ sizeLine := by
    rw [← Paired.length r1, sizeLine_eq]; omega
  have bd : BindsTo (⟨(hp.push (PySem.W.kdv_tup us)).push (PySem.HandSPX.excO C hp.objs.size), g, dr, tk, os⟩ : Shared) fd ⟨Value.ref (hp.objs.size + 1) :: us, []⟩ (ps.zip (Value.ref (hp.objs.size + 1) :: us)) := by
    have z := hb _ (Value.ref (hp.objs.size + 1) :: us) J.kIn (by simpa using ln)
    simpa using z
  refine wpAny_call (PySem.HandSPX.call_own F.excBase_Exception (fun Y => exB_has Y bm tl) (I1.kIn _ _ lk) (PySem.W.looks_findIn I1.kIn iC) (fun self => PySem.W.bind_fn I1.kIn self tI) lu
    (codeAny_mono (G.run _ X.stack _ _ ⟨Value.ref (hp.objs.size + 1) :: us, []⟩ (Value.ref (hp.objs.size + 1) :: us) _ _ (fun _ _ _ => False) (hr.make C us []) (J.env0.make C us []) bd rel hq) fun r s' z => ?_))
  cases r with
  | error er => exact False.elim z
  | ok fl =>
    cases fl with
    | ret v =>
      obtain ⟨v', H2, os2, bare2, un2, hok2, rv, ev, d, fs, ea, ed, nd1, q2⟩ := z
      subst ev
      obtain ⟨h2, g2, d2, t2, os'⟩ := s'
      exact ⟨rv, mk_end (raises_own T.ex T.ty) I1 le1 up un2 hok2 os2 bare2 ea ed nd1 q2⟩
    | next => exact z.elim
    | brk => exact z.elim
    | cont => exact z.elim
end My

/-! Kit4 -/
/-! a list comprehension whose items may raise -/
namespace My
open PySem PySem.Spec PyProof.Rows L2
section
variable {M : Model} {A : Around} {E : Value → Shared → Prop} {s : Shared} {env : Env}
theorem comp_either {e : Expr} {scope : Scope} {pos : Pos} {mkAcc first : Sem Value} {g : Comprehension} {gs : List Comprehension} {cl : List (Str × Addr)} {Q : Value → Shared → Prop}
    (ec : clausesOf e = g :: gs) (ef : ∀ x, foldedSetIterable g.iter env x = pure x) (eo : closureFor scope env = pure cl) (hk : scope.kind = .function) (hn : ∀ x ∈ scope.names, x.2 = .local → scope.names.lookup x.1 = some .local)
    (h : wpAny M A first (fun x s1 => wpAny M A (pyIter x) (fun it s2 => wpAny M A mkAcc (fun acc s3 => wpAny M A (newFunctionEnv scope env.globals cl [] env.qual none .none (some env)) (fun ce s4 =>
      codeAny M A (.compStart e 0 it acc { ce with scope := relabel scope env }) (fun r s' => ∃ m, s'.heap.Ns ce.locals m ∧ ∀ h', Heap.SameBut ce.locals s'.heap h' →
        match r with | .ok _ => Q acc { s' with heap := h' } | .error x => wpAny M A (PySem.passOn "comprehension.variables-let-go" x { ce with scope := relabel scope env } : Sem Value) (fun _ _ => False) E { s' with heap := h' }) s4) E s3) E s2) E s1) E s) :
    wpAny M A (comprehension e scope env pos mkAcc false first none) Q E s := by
  unfold comprehension
  rw [eo, ec]
  refine wpAny_bind (wpAny_mono h (fun x s1 h1 => ?_) fun _ _ z => z)
  refine wpAny_bind (wpAny_standAt ?_)
  refine wpAny_bind (wpAny_of_eq (ef x) ?_)
  refine wpAny_bind (wpAny_holding (wpAny_mono h1 (fun it s2 h2 => ?_) fun _ _ z => z))
  refine wpAny_standIf ?_
  refine wpAny_bind (wpAny_mono h2 (fun acc s3 h3 => ?_) fun _ _ z => z)
  refine wpAny_bind (wpAny_pure ?_)
  refine wpAny_bind (wpAny_mono h3 (fun ce s4 h4 => ?_) fun _ _ z => z)
  dsimp only
  have loc : ∀ x ∈ (scope.names.filter fun x => (x.2 == .local || x.2 == .cell) && x.1 != (".0" : Str)).reverse, x.2 = .local → Env.kindOf { ce with scope := relabel scope env } x.1 = some .local :=
    fun x hx hl => lookup_relabel_local (hn x (List.mem_filter.mp (List.mem_reverse.mp hx)).1 hl)
  refine wpAny_holding (wpAny_bind (wpAny_attempt (wpAny_holding (wpAny_run (codeAny_mono h4 fun r s' hr => ?_)))))
  obtain ⟨m, ns, go⟩ := hr
  cases r with
  | ok f => exact wpAny_bind (wpAny_holding (wpAny_comp_letGo (cenv := { ce with scope := relabel scope env }) hk _ s' m loc ns fun h' m' _ sb => wpAny_pure (go h' sb)))
  | error x => exact wpAny_bind (wpAny_holding (wpAny_comp_letGo (cenv := { ce with scope := relabel scope env }) hk _ s' m loc ns fun h' m' _ sb => wpAny_mono (go h' sb) (fun _ _ z => z.elim) fun _ _ z => z))
end
theorem ns_up {h h' : Heap} {C : Addr} {m : Str → Option Value} (up : h.UpToSlots h') (n : h.Ns C m) : h'.Ns C m := by
  obtain ⟨o, es, ep, e, d, r⟩ := n
  obtain ⟨sl, e'⟩ := up C o e fun vs z => by rw [d] at z; cases z
  exact ⟨_, es, ep, e', d, r⟩
theorem note_frame {x : Value} {e1 e2 : Env} (h : e1.frame = e2.frame) : noteFrame x e1 = noteFrame x e2 := by
  unfold noteFrame PySem.frameOf; rw [h]
theorem frames_to {h h' B B' : Heap} : ∀ {l : List Env}, h.FunFrames B l → (∀ L ∈ frs l, h'.get? L = h.get? L ∧ (B.get? L = none → B'.get? L = none)) → h'.FunFrames B' l
  | [], _, _ => trivial
  | env :: l, f, k => by
    obtain ⟨hk, ⟨L, o, ef, nb, eo, nf⟩, r⟩ := f
    have hL : L ∈ frs (env :: l) := List.mem_filterMap.mpr ⟨env, List.mem_cons_self, ef⟩
    refine ⟨hk, ⟨L, o, ef, (k L hL).2 nb, (k L hL).1.trans eo, nf⟩, frames_to r fun b hb => k b ?_⟩
    obtain ⟨e', m, q⟩ := List.mem_filterMap.mp hb
    exact List.mem_filterMap.mpr ⟨e', List.mem_cons_of_mem _ m, q⟩
section
variable {X : Cx} {W : WX} {u : Value} {s : Shared}
/-- in the air of X, noted by its frame -/
def XH (X : Cx) (W : WX) (u : Value) (s' : Shared) : Prop :=
  ∃ (a : Addr) (B : Heap) (sI : Shared) (pins : List (Addr × Obj)) (σ : L2.St) (H : Hp) (cls : Value) (d : Option Addr), u = .ref a ∧ Inv X pins σ H sI ∧ (∀ b o, sI.heap.get? b = some o → b ∉ frs X.stack → B.get? b = some o) ∧ sI.heap.UpToSlots s'.heap ∧
    HandSPX.HeldZ B X.stack a (Zc cls d) X.env.locals s'.heap ∧ H a = none ∧ s'.os = sI.os ∧ AllBare s'.gens ∧ W cls d σ H
theorem XH.air (x : XH X W u s) : XE X W u s := by
  obtain ⟨a, B, sI, pins, σ, H, cls, d, e, I, nb, up, sky, r⟩ := x
  exact ⟨a, B, sI, pins, σ, H, cls, d, e, I, nb, up, .inr (.inr sky), r⟩
theorem XE.noted (hs : X.stack = X.env :: X.outer) (hf : X.env.frame = some X.env.locals) (x : XE X W u s) {E : Value → Shared → Prop} {Q : Unit → Shared → Prop} (k : ∀ h', s.heap.UpToSlots h' → XH X W u { s with heap := h' } → Q () { s with heap := h' }) :
    wpAny (model X.prog X.w) X.A (noteFrame u X.env) Q E s := by
  obtain ⟨a, B, sI, pins, σ, H, cls, d, rfl, I, nb, up, sky, na, os, ag, w⟩ := x
  have hfr : X.A.frames = some (X.env :: X.outer) := by rw [I.ok.frames, hs]
  have fin : ∀ h', HandSPX.HeldZ B (X.env :: X.outer) a (Zc cls d) X.env.locals h' → s.heap.UpToSlots h' → Q () { s with heap := h' } := fun h' hh up' =>
    k h' up' ⟨a, B, sI, pins, σ, H, cls, d, rfl, I, nb, up.trans up', by rw [hs]; exact hh, na, os, ag, w⟩
  rw [hs] at sky
  rcases sky with ⟨hB, hn, hl, oe, vs, he, hz, hd, h1⟩ | fl | hh
  · exact HandSPX.look_newZ Zc.steady hfr hl hf he hB hn hd h1 hz fin
  · exact HandSPX.looks_onZ Zc.steady hfr hf fl fin
  · exact HandSPX.againZ hf hh.2.2.2 (fin s.heap hh (Heap.UpToSlots.refl _))
/-- a namespace that nobody tracks changes -/
theorem XH.off {C : Addr} {h' : Heap} {m : Str → Option Value} (x : XH X (fun c d σ H => W c d σ H ∧ H C = none) u s) (ns : s.heap.Ns C m) (sb : Heap.SameBut C s.heap h') (c1 : C ≠ X.env.locals) (c2 : X.s_0.heap.objs.size ≤ C)
    (c3 : ∀ x c, X.env.cells.lookup x = some c → c ≠ C) (c4 : ∀ p ∈ X.pn, p.1 ≠ C) (c5 : C ∉ frs X.stack) : XH X W u { s with heap := h' } := by
  obtain ⟨a, B, sI, pins, σ, H, cls, d, rfl, I, nb, up, ⟨st, an, fr, oe, vs, t, ot, ts, ea, hz, ed, e1, nt, nta, et, edt, e3⟩, na, os, ag, w, hC⟩ := x
  have I0 : Inv X [] σ H sI := ⟨I.ok, I.os, I.bare, I.base, I.loc, I.cell, I.free, I.freeC, fun p hp => I.pin p (List.mem_append_left _ (by simpa using hp)), I.hok, I.len⟩
  obtain ⟨G, g1, g2⟩ := L2.restrict sI.heap fun b => decide (b ≠ C)
  obtain ⟨D, d1, d2⟩ := L2.restrict B fun b => decide (b ≠ C)
  have inG : ∀ b o, G.get? b = some o → sI.heap.get? b = some o ∧ b ≠ C := fun b o e => by
    by_cases hb : b = C
    · rw [g2 b (by simp [hb])] at e; cases e
    · exact ⟨(g1 b (by simp [hb])).symm.trans e, hb⟩
  have inD : ∀ b o, D.get? b = some o → B.get? b = some o ∧ b ≠ C := fun b o e => by
    by_cases hb : b = C
    · rw [d2 b (by simp [hb])] at e; cases e
    · exact ⟨(d1 b (by simp [hb])).symm.trans e, hb⟩
  have offD : ∀ b, B.get? b = none → D.get? b = none := fun b e => by
    cases q : D.get? b with
    | none => rfl
    | some o => rw [(inD b o q).1] at e; cases e
  have dat : ∀ b o vs, s.heap.get? b = some o → o.data = .fields vs → b ≠ C := fun b o vs e f z => by
    obtain ⟨o', es, ep, e', f', _⟩ := ns
    rw [z, e'] at e; cases e
    rw [f'] at f; cases f
  have I1 : Inv X [] σ H { sI with heap := G } := I0.turned (t' := sI.toks) (it := C) (fun b o hb e => (g1 b (by simp [hb])).trans e) hC c1 (.inr c2) c3 (by simpa using c4)
  refine ⟨a, D, { sI with heap := G }, [], σ, H, cls, d, rfl, I1, fun b o e hb => ?_, fun b o e nf => ?_, ⟨fun b o e => ?_, offD a an, ?_, oe, vs, t, ot, ts, ?_, hz, ed, e1, offD t nt, nta, ?_, edt, e3⟩, na, os, ag, w⟩
  · obtain ⟨e', hbC⟩ := inG b o e
    exact (d1 b (by simp [hbC])).trans (nb b o e' hb)
  · obtain ⟨e', hbC⟩ := inG b o e
    obtain ⟨sl, e2⟩ := up b o e' nf
    exact ⟨sl, (sb.2 b hbC).trans e2⟩
  · obtain ⟨e', hbC⟩ := inD b o e
    exact (sb.2 b hbC).trans (st b o e')
  · exact frames_to fr fun L hL => ⟨sb.2 L fun z => c5 (z ▸ hL), offD L⟩
  · exact (sb.2 a (dat a oe vs ea ed)).trans ea
  · exact (sb.2 t (dat t ot ts et edt)).trans et
/-- it is passed on -/
theorem XH.on {what : String} {ce : Env} (x : XH X W u s) (hc : ce.frame = some X.env.locals) (tk : Takes X W) : wpAny (model X.prog X.w) X.A (PySem.passOn what u ce : Sem Value) (fun _ _ => False) X.xe s := by
  obtain ⟨a, B, sI, pins, σ, H, cls, d, rfl, I, nb, up, ⟨st, an, fr, tr⟩, na, os, ag, w⟩ := x
  have tr' := tr
  obtain ⟨oe, vs, t, ot, ts, ea, hz, ed, e1, r⟩ := tr'
  unfold PySem.passOn
  refine wpAny_bind (wpAny_field ea ed e1 ?_)
  rw [if_neg (show ¬ ((Value.ref t == Value.none) = true) from by simp)]
  rw [hc]
  refine wpAny_bind (HandSPX.setFlight_anyZ st fr tr fun h' k1 k2 k3 k4 => wpAny_throw (tk _ _ ?_))
  exact ⟨a, B, sI, pins, σ, H, cls, d, rfl, I, nb, up.trans k4, .inr (.inr ⟨k1, an, k2, k3⟩), na, os, ag, w⟩
end
/-- [elt for tg in iter], an item may raise what E says -/
theorem pe_lcX {X : Cx} {elt tg iter : Expr} {scope : Scope} {own : List (Str × Nat)} {pos : Pos} {wi : TI} {g : TG} {te : TE} {E : XK} (hc : X.calm = true) (hN : X.N.Nodup) (hs : X.stack = X.env :: X.outer) (hf : X.env.frame = some X.env.locals)
    (tk : Takes X fun c d _ H => E c d H) (hi : PI X tg iter wi) (ok : BlkOk X.N X.env.scope scope own)
    (hg : ∀ (s : Shared) (H : Hp) (C : Addr) (cl : List (Str × Addr)) (fp : List Addr), PG (X.blk s H scope (compEnvC scope cl C X.env) fp) tg g)
    (he : ∀ (s : Shared) (H : Hp) (C : Addr) (cl : List (Str × Addr)) (fp : List Addr) (xe : Value → Shared → Prop), Passes (L2.CX X.prog X.w) ((X.blk s H scope (compEnvC scope cl C X.env) fp).wish xe) E → PE ((X.blk s H scope (compEnvC scope cl C X.env) fp).wish xe) elt te)
    (fs : ∀ x, foldedSetIterable iter X.env x = pure x := by intro _; rfl) : PE X (.ListComp elt [⟨tg, iter, [], 0⟩] scope pos) (tLc wi g tYes te (own.map (·.2))) := by
  refine ⟨fun pins s σ H Q I h => ?_⟩
  rw [eval_ListComp]
  have cells : ∀ y ∈ scope.names, y.2 = .free → ∃ c, X.env.cells.lookup y.1 = some c := fun y hy e => (ok.free y hy e).elim (fun k => I.ok.has _ (.inl k)) fun k => I.ok.has _ (.inr k)
  refine comp_either rfl fs (closure_ok cells) ok.kind (fun y hy e => by rw [ok.uniq y hy, e]) (thn (hi.run pins s σ H _ I h) fun xv s1 hx => thn hx fun itv s2 h2 => ?_)
  obtain ⟨it, fp, tn, J, H2, e, I2, T, st2, f2, q⟩ := h2
  subst e
  refine wpAny_newObj_type (newEnv_comp ?_) (by show 0 ≤ sizeLine; decide)
  -- the new list at D, the block's names at C
  have hDn : H2 s2.heap.objs.size = none := I2.hok.fresh (Nat.le_refl _)
  obtain ⟨W, ⟨m0, w0⟩, turn⟩ := q s2.heap.objs.size hDn
  have lay : ObjOk X.prog X.w (upd H2 s2.heap.objs.size (.lst [])) (s2.heap.push { cls := .type "list", data := .seq ([] : List Value).toArray }) s2.heap.objs.size (.lst []) := ⟨Nat.zero_le _, [], 0, .nil, Heap.get?_push_size _ rfl⟩
  have I3 : Inv X pins σ (upd H2 s2.heap.objs.size (.lst [])) { s2 with heap := s2.heap.push { cls := .type "list", data := .seq ([] : List Value).toArray } } := I2.laid (t' := s2.toks) (fun b o z => Heap.get?_push_of_some _ z) (Nat.le_refl _) lay
  have small : ∀ b ∈ fp, b < s2.heap.objs.size := fun b hb => by
    obtain ⟨o, z, _⟩ := T.obj _ _ st2 b hb
    exact Heap.lt_size z
  have f3 : ∀ b ∈ fp, FpOk X pins (upd H2 s2.heap.objs.size (.lst [])) b ∧ b < ({ s2 with heap := s2.heap.push { cls := .type "list", data := .seq ([] : List Value).toArray } } : Shared).heap.objs.size := fun b hb => by
    refine ⟨⟨?_, (f2 b hb).2⟩, ?_⟩
    · rw [upd_ne (Nat.ne_of_lt (small b hb))]; exact (f2 b hb).1
    · show b < (s2.heap.push _).objs.size
      rw [Heap.size_push]; exact Nat.lt_succ_of_lt (small b hb)
  have st3 : tn 0 (s2.heap.push { cls := .type "list", data := .seq ([] : List Value).toArray }) := T.keep _ _ _ st2 fun b _ o z => Heap.get?_push_of_some _ z
  generalize s2.heap.objs.size = D at *
  generalize hs3 : ({ s2 with heap := s2.heap.push { cls := .type "list", data := .seq ([] : List Value).toArray } } : Shared) = s3 at *
  have st3 : tn 0 s3.heap := by rw [← hs3]; exact st3
  have I4 := block_start I3 ok hN f3
  generalize hH3 : upd H2 D (.lst []) = H3 at *
  generalize hcl : cellsFrom (s3.heap.objs.size + 1) scope.names (cloFrom X.env.cells scope.names []) = cl at *
  have pg := hg s3 H3 s3.heap.objs.size cl fp
  have pe := he s3 H3 s3.heap.objs.size cl fp
  have cf : (compEnvC scope cl s3.heap.objs.size X.env).frame = X.env.frame := rfl
  have cL : (compEnvC scope cl s3.heap.objs.size X.env).locals = s3.heap.objs.size := rfl
  show codeAny _ _ (.compStart (.ListComp elt [⟨tg, iter, [], 0⟩] scope pos) 0 (.ref it) (.ref D) (compEnvC scope cl s3.heap.objs.size X.env)) (fun r s' => ∃ m, s'.heap.Ns s3.heap.objs.size m ∧ ∀ h', Heap.SameBut s3.heap.objs.size s'.heap h' →
    match r with | .ok _ => EP X pins σ Q (.ref D) { s' with heap := h' } | .error x => wpAny (model X.prog X.w) X.A (PySem.passOn "comprehension.variables-let-go" x (compEnvC scope cl s3.heap.objs.size X.env) : Sem Value) (fun _ _ => False) X.xe { s' with heap := h' }) { s3 with heap := pushCells (s3.heap.push { cls := .type "dict", data := .dict #[] }) scope.names }
  generalize compEnvC scope cl s3.heap.objs.size X.env = ce at *
  generalize hR : (fun (r : Result) (s' : Shared) => ∃ m, s'.heap.Ns s3.heap.objs.size m ∧ ∀ h', Heap.SameBut s3.heap.objs.size s'.heap h' →
    match r with | .ok _ => EP X pins σ Q (.ref D) { s' with heap := h' } | .error x => wpAny (model X.prog X.w) X.A (PySem.passOn "comprehension.variables-let-go" x ce : Sem Value) (fun _ _ => False) X.xe { s' with heap := h' }) = R
  generalize hs4 : ({ s3 with heap := pushCells (s3.heap.push { cls := .type "dict", data := .dict #[] }) scope.names } : Shared) = s4 at *
  have st4 : tn 0 s4.heap := T.keep _ _ _ st3 fun b _ o z => by rw [← hs4]; exact pushCells_keeps _ _ _ _ (Heap.get?_push_of_some _ z)
  have nfp : ∀ b ∈ fp, H3 b = none := fun b hb => (f3 b hb).1.1
  have stat : ∀ {σ' : L2.St} {H' : Hp} {s' : Shared}, Inv (X.blk s3 H3 scope ce fp) [] σ' H' s' → (∀ b ∈ fp, H' b = none) → ∀ b ∈ fp, FpOk (X.blk s3 H3 scope ce fp) [] H' b := fun {σ' H' s'} J hn b hb =>
    ⟨hn b hb, (J.ok.exf b hb).1, J.ok.exfs b hb, .inl hb, fun x c z => (J.ok.exf b hb).2 x c z, fun p hp => absurd (show p ∈ ([] : List (Addr × Obj)) ++ [] from hp) (by simp)⟩
  -- what the block leaves, in the def's own context
  have back : ∀ {pins' : List (Addr × Obj)} {σ' : L2.St} {H' : Hp} {s' : Shared}, Inv (X.blk s3 H3 scope ce fp) pins' σ' H' s' → Inv X pins σ H' s' ∧ (∃ m, s'.heap.Ns s3.heap.objs.size m) ∧ FpOk X pins H' s3.heap.objs.size := fun {pins' σ' H' s'} J => by
    have nC : H' s3.heap.objs.size = none := cL ▸ (J.free : H' ce.locals = none)
    obtain ⟨m, ns, _⟩ := J.loc
    refine ⟨I3.call' (ch := fp) J.os J.base J.hok J.bare fun b hb => ?_, ⟨m, cL ▸ (ns : s'.heap.Ns ce.locals m)⟩, I3.fpOk (Nat.le_refl _) nC⟩
    obtain ⟨_, b1, _, b3, b4, b5⟩ := (f3 b hb).1
    exact ⟨b3, b1, b4, b5⟩
  have frX : frs X.stack = X.env.locals :: X.fs := by rw [hs]; show frs (X.env :: X.outer) = _; unfold frs; rw [List.filterMap_cons, hf]; rfl
  have loop : codeAny (model X.prog X.w) X.A (.compLoop (.ListComp elt [⟨tg, iter, [], 0⟩] scope pos) 0 (.ref it) (.ref D) ce) R s4 := by
    refine compLoop_any (fun n s' => ∃ i H', Inv (X.blk s3 H3 scope ce fp) [] (wipe σ (own.map (·.2))) H' s' ∧ tn i s'.heap ∧ (∀ b ∈ fp, H' b = none) ∧ W i n H') ?_ m0 ⟨0, H3, I4, st4, nfp, w0⟩
    rintro n s5 ⟨i, H5, I5, st5, n5, w5⟩
    rcases turn i n H5 w5 with ⟨stop, qq⟩ | ⟨go, Nx, hNx, step⟩
    · refine thnF (T.done (X.blk s3 H3 scope ce fp) rfl rfl rfl hc i [] s5 _ H5 (fun _ _ => False) I5 (stat I5 n5) st5 stop) fun r s6 ⟨hr, I6⟩ => ?_
      subst hr
      obtain ⟨I7, ⟨m, ns⟩, _, b1, _, b3, b4, b5⟩ := back I6
      obtain ⟨nC, _⟩ := (back I6).2.2
      rw [← hR]
      exact ⟨m, ns, fun h' sb => ⟨.ref D, H5, I7.turned (t' := s6.toks) (fun b o hb z => (sb.2 b hb).trans z) nC b1 b3 b4 b5, rfl, qq⟩⟩
    refine thnF (T.item (X.blk s3 H3 scope ce fp) rfl rfl rfl hc i [] s5 _ H5 (fun _ _ => False) I5 (stat I5 n5) st5 go) fun r s6 ⟨u, hr, h6⟩ => ?_
    subst hr
    refine thnF h6 fun _ s7 ⟨x, H7, I7, r7, y7, st7, n7⟩ => ?_
    refine thnF (pg.run _ s7 _ H7 x u _ (I7.pinned (stat I7 n7) (T.obj _ _ st7)) r7 (step x H7 y7)) fun _ s8 ⟨σ8, H8, I8, hw8, q8⟩ => ?_
    refine thnF ((pts_nil (X := X.blk s3 H3 scope ce fp)).run _ s8 σ8 H8 _ I8 q8) fun b s9 ⟨H9, I9, q9⟩ => ?_
    have fin : ∀ {s' : Shared} {H' : Hp}, Inv (X.blk s3 H3 scope ce fp) ([] ++ pinsAt fp s7.heap) σ8 H' s' → Nx H' → ∃ m, m < n ∧ ∃ i H', Inv (X.blk s3 H3 scope ce fp) [] (wipe σ (own.map (·.2))) H' s' ∧ tn i s'.heap ∧ (∀ b ∈ fp, H' b = none) ∧ W i m H' := fun {s' H'} J nx => by
      obtain ⟨m', lt, w'⟩ := hNx H' nx
      have kept : ∀ b ∈ fp, ∀ o, s7.heap.get? b = some o → s'.heap.get? b = some o ∧ H' b = none := fun b hb o z => by
        have p := J.pin (b, o) (List.mem_append_right _ (List.mem_append_right _ (mem_pinsAt hb z)))
        exact ⟨p.1, p.2.1⟩
      have ln : (wipe σ (own.map (·.2))).length = σ8.length := by rw [← hw8, wipe_length]
      refine ⟨m', lt, i + 1, H', (J.unpinned (pins := [])).weak ln fun j v z => ?_, T.keep _ _ _ st7 fun b hb o z => (kept b hb o z).1, fun b hb => ?_, w'⟩
      · rw [← hw8] at z
        exact (wipe_some z).1
      · obtain ⟨o, z, _⟩ := T.obj _ _ st7 b hb
        exact (kept b hb o z).2
    cases b with
    | false =>
      rw [if_neg Bool.false_ne_true] at q9 ⊢
      exact fin I9 q9
    | true =>
      rw [if_pos rfl] at q9 ⊢
      have run := (pe (fun v s' => ∃ pins' σ' H' s0, Inv (X.blk s3 H3 scope ce fp) pins' σ' H' s0 ∧ L2.CX X.prog X.w X.stack H' s0 E v s') fun pins' σ' H' s0 v s' J c => ⟨pins', σ', H', s0, J.unwish, c⟩).run _ s9 σ8 H9 _ (I9.wish _) q9
      refine wpAny_mono run (fun z s10 ⟨yv, H10, J10, r10, acc, hD10, hz10, nx⟩ => ?_) fun v s' ⟨pins', σ', H', s0, J, c⟩ => ?_
      · exact wpAny_mono (app_ok (X := X.blk s3 H3 scope ce fp) (E := fun _ _ => False) J10.unwish hD10 hz10 r10 fun s11 I11 => fin I11 nx) (fun _ _ z => z) fun _ _ z => z.elim
      · obtain ⟨IX, ⟨m, ns0⟩, nC, b1, b2, b3, b4, b5⟩ := back J
        have notF : s3.heap.objs.size ∉ frs X.stack := by rw [frX]; intro z; rcases List.mem_cons.mp z with z | z; exact b1 z; exact b2 z
        obtain ⟨a, B, H'', cls, d, eu, fl, hok, ub, na, os, ag, hE⟩ := c
        have ns1 : s'.heap.Ns s3.heap.objs.size m := by
          obtain ⟨o, es, ep, eo, r⟩ := ns0
          exact ⟨o, es, ep, fl.1 _ _ (ub.keep _ o eo nC notF), r⟩
        have nC2 : H'' s3.heap.objs.size = none := by
          obtain ⟨o, es, ep, eo, r⟩ := ns0
          exact ub.free _ o eo nC
        have air : XE X (fun c d _ H => E c d H ∧ H s3.heap.objs.size = none) v s' := XE.of_call (E := fun c d H => E c d H ∧ H s3.heap.objs.size = none) IX (fun _ _ _ z => z) ⟨a, B, H'', cls, d, eu, fl, hok, ub, na, os, ag, hE, nC2⟩
        show wpAny _ _ (noteFrame v ce) _ _ _
        rw [note_frame cf, ← hR]
        exact XE.noted hs hf air fun h' up xh => ⟨m, ns_up up ns1, fun h2 sb => (xh.off (W := fun c d _ H => E c d H) (ns_up up ns1) sb b1 I3.sz b4 (fun p hp => b5 p (List.mem_append_left _ hp)) notF).on (cf.trans hf) tk⟩
  exact codeAny_compStart_list loop (T.self X.A 0 _ _ _ st4 loop)
end My

/-! Kit5 -/
namespace My
open PySem PySem.Spec PyProof.Rows L2
/-- o.m(..), what it may let out told at the slots -/
def tMethS (C : Addr) (m : Str) (sp : Sp) (E : L2.St → XK) (ta : TE) (t : TA) : TE := fun σ H Q => ta σ H fun x H1 => ∃ a dx fs, x = .ref a ∧ H1 a = some (.ins C dx fs) ∧ fs.lookup m = none ∧ t σ H1 fun vs H2 => sp (.ref a :: vs) H2 Q (E σ)
theorem pe_methS {X : Cx} {CX : CXT} {k : Nat} {f C : Addr} {fd : FuncData} {ps : List Str} {sp : Sp} {E : L2.St → XK} {m : Str} {pos apos : Pos} {o e : Expr} {es : List Expr} {ta : TE} {t : TA} {pl : Sem Bool} (he : PE X o ta) (c : Cls X.K C) (hm : Meth X.K C m f) (F : FnOk X.prog X.w X.K X.mg X.base CX k f fd ps sp) (hr : Room k X.A) (hb : Binds X.K fd ps []) (hx : ∀ σ, PassesAt CX X σ (E σ)) (ha : PA X (e :: es) t)
    (hst : starEach (e :: es) X.env = (false, eval e X.env) :: starEach es X.env := by rfl) (hpl : (backTo pos (starEach es X.env)).any (·.1) = false := by rfl)
    (ht : eval (.Call (.Attribute o m apos) (e :: es) [] pos) X.env = (do
      let ov ← eval o X.env; standAt apos.atName
      let (f, first) ← holding [ov] (getMethod ov m pl); callWith pos f first (backTo pos (starEach (e :: es) X.env)) (backToKw pos (keywordEach [] X.env))) := by rfl) :
    PE X (.Call (.Attribute o m apos) (e :: es) [] pos) (tMethS C m sp E ta t) := by
  refine ⟨fun pins s σ H Q I h => PySem.W.methodCall_KW (pl := pl) (thn (he.run pins s σ H _ I h) fun u s1 ⟨x, H1, I1, rx, a, dx, fs, ex, ea, l, q⟩ => ?_) ht⟩
  subst ex
  obtain rfl : u = Value.ref a := rx
  refine getmeth_ok I1 ea c hm l ?_
  exact PySem.W.callWith_K (first := [.ref a]) (h₀ := X.base) I.ok.mod.kin hm.kp (thn (ha.run pos pins s1 σ H1 _ I1 q) fun us s2 ⟨vs, H2, I2, r, q2⟩ => ⟨I2.kIn, run_fnS (us := .ref a :: us) (vs := .ref a :: vs) F hr hb (hx σ) I2 (.cons rfl r) q2⟩) hst hpl
/-- what an exception's __init__ leaves: the dict alone -/
theorem del_init {H : Hp} {a dx : Addr} {o o2 o3 o4 : HO} (ha : H a = none) (hne : dx ≠ a) : upd (del (upd (upd (upd H a o) dx o2) a o3) a) dx o4 = upd H dx o4 := by
  funext b
  by_cases h1 : b = dx
  · subst h1; rw [upd_same, upd_same]
  · rw [upd_ne h1, upd_ne h1]
    by_cases h2 : b = a
    · subst h2; rw [del_same, ha]
    · rw [del_ne h2, upd_ne h2, upd_ne h1, upd_ne h2]
/-- self.f = v in the __init__ of an exception -/
def sp_exinit (C : Addr) (f : Str) : Sp := fun vs H Q _ => ∃ (a : Addr) (v : V), vs = [.ref a, v] ∧ H a = some (exo a C none) ∧ ∀ dx, H dx = none → dx ≠ a → Q .non (upd (upd H dx (exd dx [(f, v)])) a (exo a C (some dx)))
theorem sp_exinit_len {C : Addr} {f : Str} {vs H Q E} (h : sp_exinit C f vs H Q E) : vs.length = 2 := by obtain ⟨_, _, rfl, _⟩ := h; rfl
/-- raise C(v): what the def's own way out must bear -/
theorem raiseE {C : Addr} {f : Str} {H : Hp} {v : V} {Q : XK} {R : XK} (k : ∀ d, H d = none → Q (.ref C) (some d) (upd H d (.xd [(f, v)]))) : ([v] : List V).length ≤ 1000 ∧ ∀ a, H a = none → sp_exinit C f (.ref a :: [v]) (upd H a (exo a C none))
    (fun u H2 => u = .non ∧ ∃ (d : Addr) (fs : List (Str × V)), H2 a = some (exo a C (some d)) ∧ H2 d = some (exd d fs) ∧ H d = none ∧ Q (.ref C) (some d) (upd (del H2 a) d (.xd fs))) R := by
  refine ⟨by show 1 ≤ 1000; decide, fun a ha => ⟨a, v, rfl, upd_same, fun dx hdx hne => ⟨rfl, dx, [(f, v)], upd_same, ?_, ?_, ?_⟩⟩⟩
  · rw [upd_ne hne, upd_same]
  · rw [upd_ne hne] at hdx; exact hdx
  · rw [del_init ha hne]
    rw [upd_ne hne] at hdx
    exact k dx hdx
/-- over a list or a tuple that stands at a name -/
def iSeq (i : Nat) : TI := fun σ H R => ∃ (a : Addr) (ys : List V), σ[i]? = some (some (.ref a)) ∧ (H a = some (.lst ys) ∨ H a = some (.tup ys)) ∧ ∀ (J : It) (G : Hp → Prop), Walk J ys.length G (YAt ys) → (∀ H' : Hp, H' a = H a → G H') → R J H
theorem pi_seq {X : Cx} {tg : Expr} (i : Nat) {x : Str} {pos : Pos} (hN : X.N[i]? = some x := by rfl) (hv : Vis X.env.scope x := by first | exact Or.inl rfl | exact Or.inr (Or.inl rfl) | exact Or.inr (Or.inr rfl)) (hd : (x == ("__debug__" : Str)) = false := by decide)
    (hcd : (x == ("__classdict__" : Str)) = false := by decide) : PI X tg (.Name x pos) (iSeq i) := by
  refine ⟨fun pins s σ H R I ⟨a, ys, e, h, k⟩ => ?_⟩
  rcases h with h | h
  · exact (pi_list (pv i hN hv hd hcd)).run pins s σ H R I ⟨_, e, a, rfl, ⟨ys, SqL.of h⟩, k _ _ walk_list fun H' q => SqL.of (q.trans h)⟩
  · exact (pi_tup (pv i hN hv hd hcd)).run pins s σ H R I ⟨_, e, a, rfl, ⟨ys, SqT.of h⟩, k _ _ walk_tup fun H' q => SqT.of (q.trans h)⟩
/-- isinstance(x, (list, tuple)) -/
theorem k_il : kitB "int" "list" = some false := by decide +kernel
theorem k_it : kitB "int" "tuple" = some false := by decide +kernel
theorem k_bl' : kitB "bool" "list" = some false := by decide +kernel
theorem k_bt : kitB "bool" "tuple" = some false := by decide +kernel
def Row (H : Hp) (a : Addr) (ys : List V) : Prop := H a = some (.lst ys) ∨ H a = some (.tup ys)
theorem Row.news {H H' : Hp} {a : Addr} {ys : List V} (h : Row H a ys) (s : Same H H') : Row H' a ys := h.elim (fun z => .inl (s _ _ z)) fun z => .inr (s _ _ z)
theorem Row.eq {H H' : Hp} {a : Addr} {ys : List V} (h : Row H a ys) (s : Same H H') : H' a = H a := by
  rcases h with z | z
  · rw [z]; exact s _ _ z
  · rw [z]; exact s _ _ z
end My

/-! Kit6 -/
/-! sorted(d), its keys ints, any number of them -/
namespace My
open PySem PySem.Spec PyProof.Rows L2
theorem keys_ints {us : List Value} {ks : List Int} {vs : List (Key × Value)} (hl : us.length = vs.length) (hk : vs.map (·.1) = ks.map Sum.inl)
    (h : ∀ (j : Nat) (v : Value), us[j]? = some v → ∃ (k : Key) (x : Value), vs[j]? = some (k, x) ∧ keyIs k v = true) : IntsAre us ks := by
  have e := keys_at hl h
  have e2 : (vs.map fun p => kV p.1) = ks.map V.int := by
    have := congrArg (List.map kV) hk
    rw [List.map_map, List.map_map] at this
    exact this
  rw [e2] at e
  exact e.ints
/-- a list of ints that was laid just now is sorted -/
theorem sort_fresh {X : Cx} {pins : List (Addr × Obj)} {σ : L2.St} {H : Hp} {s : Shared} {A : Around} {E : Value → Shared → Prop} {R : PySem.Fin → Shared → Prop} {vs : List Value} {ks : List Int} (I : Inv X pins σ H s) (hi : IntsAre vs ks) (hz : vs.length ≤ sizeLine)
    (k : ∀ (ys : List Int) (s' : Shared), ys.Perm ks → ys.Pairwise (· ≤ ·) → H s.heap.objs.size = none → Inv X pins σ (upd H s.heap.objs.size (.lst (ys.map V.int))) s' → R (.done (.ret .none)) s') :
    wpAny (model X.prog X.w) A (Builtin.«list.sort» ⟨[.ref s.heap.objs.size], []⟩) R E { s with heap := s.heap.push (seqObj "list" vs.toArray 0) } := by
  have ho : (s.heap.push (seqObj "list" vs.toArray 0)).get? s.heap.objs.size = some (seqObj "list" vs.toArray 0) := Heap.get?_push_size _ rfl
  refine SrtO.list_sort_ord (s := { s with heap := s.heap.push (seqObj "list" vs.toArray 0) }) SrtO.swo_int ho hz (fun h2 => SrtO.ints_sortable hi h2) fun out h1 h2 => ?_
  obtain ⟨k1, k2, k3⟩ := SrtO.ints_out hi h1 h2
  obtain ⟨ep, he⟩ := PyProof.Rows.sortedHeap_at (vs := vs) (out := out.toArray) ho
  have hn : ks.length = vs.length := by rw [← SrtO.iv_ints hi, List.length_map]
  have hlen : ((out.map SrtO.iv).map V.int).length ≤ sizeLine := by
    rw [List.length_map, k2.length_eq, hn]; exact hz
  refine k _ _ k2 k3 (I.hok.fresh (Nat.le_refl _)) (I.laid (t' := s.toks) (fun b u e => ?_) (Nat.le_refl _) (show ObjOk X.prog X.w _ _ _ (.lst ((out.map SrtO.iv).map V.int)) from ⟨hlen, out, ep, vals_of_ints k1, he⟩))
  have hb : b < s.heap.objs.size := Heap.lt_size e
  rw [PyProof.Rows.sortedHeap_old (Nat.ne_of_lt hb) (by rw [size_push']; exact Nat.lt_succ_of_lt hb)]
  exact Heap.get?_push_of_some _ e
theorem cr_sortedDA {X : Cx} (hcalm : X.calm = true) : CallR X (.builtin "sorted") (fun xs H Q => ∃ (a : Addr) (kvs : List (Key × V)) (ks : List Int), xs = [.ref a] ∧ Rd H a (.dK kvs) ∧ kvs.map (·.1) = ks.map Sum.inl ∧ ks.length ≤ sizeLine ∧
    ∀ (ys : List Int) (p : Addr), ys.Perm ks → ys.Pairwise (· ≤ ·) → H p = none → Q (.ref p) (upd H p (.lst (ys.map V.int)))) := by
  rintro pins s σ H xs us Q I r ⟨a, kvs, ks, rfl, hd, hks, hz, q⟩
  obtain ⟨u, rfl, rx⟩ := vals1 r
  cases rx
  obtain ⟨z, lo, vs, rel, dd⟩ := dk_rd I.hok hd
  obtain ⟨ep, hat⟩ := dd.dictAt
  have hkeys := rel.keys.symm.trans hks
  have hl : vs.length = ks.length := by simpa using congrArg List.length hkeys
  refine Calls.call_function_entry PyProof.Rows.kind_sorted PyProof.Rows.plain_sorted PyProof.Rows.entry_sorted (PyProof.Rows.args_sorted1 _) ?_
  unfold Builtin.«sorted»
  refine wpAny_bind (m := checkCount "sorted" 1 1 _) (wpAny_pure ?_)
  refine wpAny_bind (PySem.W.kdu_collect (A := X.A.in1) (PySem.W.kdl_dict (knd := mixKind X.prog X.w) (kvs := vs) (ep := ep) lo) (I.ok.hd hcalm) hat (by omega) fun h' tk acc hk hacc => ?_)
  have hal : acc.toList.length = vs.length := by rw [Array.length_toList, hacc.1]
  have hI := keys_ints hal hkeys fun j v e => hacc.2 j v (by rw [← Array.getElem?_toList]; exact e)
  have I1 : Inv X pins σ H { s with heap := h', toks := tk } := I.kept hk
  refine wpAny_bind (wpAny_newList ?_ (by omega))
  have hoL : (h'.push (seqObj "list" acc.toList.toArray 0)).get? h'.objs.size = some (seqObj "list" acc.toList.toArray 0) := Heap.get?_push_size _ rfl
  show wpAny _ _ _ _ _ { s with heap := h'.push (seqObj "list" acc.toList.toArray 0), toks := tk }
  refine wpAny_bind (wpAny_holding (wpAny_call_entry PyProof.Rows.slot_list_sort ⟨_, hoL, rfl⟩ PyProof.Rows.entry_list_sort (sort_fresh I1 hI (by omega) fun ys s' g1 g2 g3 J => ⟨_, rfl, ?_⟩) (PyProof.Rows.args_list_sort _)))
  exact wpAny_pure ⟨_, rfl, .ref _, _, J, rfl, q ys _ g1 g2 g3⟩
end My

/-! Kit7 -/
/-! several except clauses, some of them with a name -/
namespace My
open PySem PySem.Spec PyProof.Rows L2
abbrev TSX := Addr → Value → Option Addr → TS
/-- the ends of a suite whose name is at slot o, and the slots within -/
def outD (o : Option Nat) (D : Ends) : Ends := match o with | none => D | some i => { nx := fun σ' H' => D.nx (σ'.set i none) H', rt := D.rt, bk := fun σ' H' => D.bk (σ'.set i none) H', ct := fun σ' H' => D.ct (σ'.set i none) H' }
def inS (o : Option Nat) (a : Addr) (σ : L2.St) : L2.St := match o with | none => σ | some i => σ.set i (some (.ref a))
def wMix (K : PySem.W.Frag) (Wout : WX) (D : Ends) : List (Option Nat × Value × TSX) → WX
  | [] => Wout
  | (o, c, ts) :: r => fun cls d σ H => ∃ b, PySem.W.exmOne K cls c = some b ∧ (b = true → ∀ a, H a = none → ts a cls d (outD o D) (inS o a σ) H) ∧ (b = false → wMix K Wout D r cls d σ H)
/-- the name of a clause stands at its slot -/
def AtSlot (X : Cx) (o : Option Nat) (nm : Option Str) : Prop := match o, nm with
  | none, none => True
  | some i, some n => X.N[i]? = some n ∧ X.env.kindOf n = some .local
  | _, _ => False
inductive HdM (X : Cx) : List ExceptHandler → List (Option Nat × Value × TSX) → Prop
  | nil : HdM X [] []
  | cons {x : Str} {o : Option Nat} {nm : Option Str} {c : Value} {ts : TSX} {b₀ : Stmt} {suite : List Stmt} {np pos' : Pos} {hds : List ExceptHandler} {l : List (Option Nat × Value × TSX)} (hc : Names X x c) (hn : AtSlot X o nm)
      (hsu : ∀ (a : Addr) (oe : Obj) (cls : Value) (d : Option Addr) (pn : List (Addr × Obj)), Zc cls d oe → (∃ vs, oe.data = .fields vs) → PSs (X.suite a ((a, oe) :: pn)) (b₀ :: suite) (ts a cls d)) (r : HdM X hds l) :
      HdM X (.ExceptHandler (some (.Name x np)) nm (b₀ :: suite) pos' :: hds) ((o, c, ts) :: l)
section
variable {X : Cx} {body : List Stmt} {h₀ : ExceptHandler} {hds : List ExceptHandler} {l : List (Option Nat × Value × TSX)} {pos : Pos} {tb : WX → TS} {Wout : WX}
theorem ps_try_mix (hs : X.stack = X.env :: X.outer) (hf : X.env.frame = some X.env.locals) (hN : X.N.Nodup) (tk : Takes X Wout)
    (hb : ∀ (W : WX) (pn : List (Addr × Obj)) (xe : Value → Shared → Prop), Takes (X.tr pn xe) W → PassesOwn (model X.prog X.w) X.A X.env xe → PSs (X.tr pn xe) body (tb W))
    (hh : HdM X (h₀ :: hds) l) : PS X (.Try body (h₀ :: hds) [] [] pos) (fun D σ H => tb (wMix X.K Wout D l) D σ H) := by
  refine ⟨fun pins s σ H D I h => ?_⟩
  have ok := I.ok
  have hfr : X.A.frames = some (X.env :: X.outer) := by rw [ok.frames, hs]
  refine wpAny_Try_except ?_
  refine wpAny_mono ((hb (wMix X.K Wout D l) (X.pn ++ pins) (fun e s₁ => wpAny (model X.prog X.w) X.A (noteFrame e X.env) (fun _ s₂ => wpAny (model X.prog X.w) X.A (setFlight e none) (fun _ s₃ =>
    wpAny (model X.prog X.w) X.A (handleBy e X.env (h₀ :: hds)) (SP X pins D) X.xe s₃) X.xe s₂) X.xe s₁) (fun u s' xx => ?_) PassesOwn.looking).run [] s σ H D (I.toTry _) h) (fun f s1 hsp => ?_) (fun e s1 he => he)
  · obtain ⟨a, B, sI, pins', σ', H', cls, d, rfl, J', nb, up, sky, na, os, ag, w⟩ := xx
    have J : Inv X pins σ' H' sI := J'.ofTry ok
    have sky' : Sky B (X.env :: X.outer) a (Zc cls d) X.env.locals s'.heap := by rw [← hs]; exact sky
    show wpAny (model X.prog X.w) X.A (noteFrame (.ref a) X.env) _ _ _
    refine Sky.land Zc.steady hfr hf sky' fun h3 fl3 up3 => ?_
    have J3 : Inv X pins σ' H' { s' with heap := h3 } := J.landed nb fl3.1 (up.trans up3) os ag
    obtain ⟨oe3, vs3, he3, hz3, hd3⟩ := fl3.there
    -- the error is no frame's object
    have nfr : a ∉ frs (X.env :: X.outer) := fun hm => by
      obtain ⟨_, o', e', hnf⟩ := Heap.FunFrames.mem fl3.2.2.1 hm
      rw [he3] at e'; cases e'
      exact hnf _ hd3
    have nL : a ≠ X.env.locals := fun z => nfr (List.mem_filterMap.mpr ⟨X.env, List.mem_cons_self, by rw [hf, z]⟩)
    have nF : a ∉ X.fs := fun hm => by
      obtain ⟨e, he, q⟩ := List.mem_filterMap.mp hm
      exact nfr (List.mem_filterMap.mpr ⟨e, List.mem_cons_of_mem _ he, q⟩)
    have S3 := J3.suite he3 hd3 na nL nF
    have LT : PySem.W.Looks (model X.prog X.w) h3 (typeOf (.ref a)) cls := fun A Q E s k q => wpAny_typeOf_ref (k _ _ he3) (by rw [hz3.1]; exact q)
    have go : ∀ {hds' : List ExceptHandler} {l' : List (Option Nat × Value × TSX)}, HdM X hds' l' → wMix X.K Wout D l' cls d σ' H' →
        wpAny (model X.prog X.w) X.A (handleBy (.ref a) X.env hds') (SP X pins D) X.xe { s' with heap := h3 } := by
      intro hds' l' hk
      induction hk with
      | nil =>
        intro w
        refine wpAny_handleBy_nil ?_
        obtain ⟨k1, k2, k3, oe, vs, T, oT, ts', he, hz, hd, h1, hr⟩ := id fl3
        unfold PySem.passOn
        refine wpAny_bind (wpAny_field he hd h1 ?_)
        rw [if_neg (show ¬ ((Value.ref T == Value.none) = true) from by simp)]
        have last : wpAny (model X.prog X.w) X.A (setFlight (.ref a) X.env.frame) (fun _ s4 => wpAny (model X.prog X.w) X.A (throw (.ref a) : Sem Flow) (SP X pins D) X.xe s4) X.xe { s' with heap := h3 } := by
          rw [hf]
          refine HandSPX.setFlight_upZ fl3 fun h4 hh4 up4 => wpAny_throw (tk _ _ ?_)
          exact ⟨a, B, sI, pins, σ', H', cls, d, rfl, J, nb, (up.trans up3).trans up4, .inr (.inr (by rw [hs]; exact hh4)), na, os, ag, w⟩
        first
          | exact wpAny_bind (wpAny_pure (wpAny_bind last))
          | exact wpAny_bind last
      | @cons x o nm c ts b₀ suite np pos' hds2 l2 hc hn hsu r ih =>
        rintro ⟨b, hb1, hyes, hno⟩
        refine wpAny_handleBy_cons (codeAny_handlers_test ?_) (by intro q; cases q)
        have LM := PySem.W.exm_one (M := model X.prog X.w) (J3.kIn) LT hb1
        have test : ∀ {Q : Value → Shared → Prop} {E : Value → Shared → Prop}, Q c { s' with heap := h3 } → wpAny (model X.prog X.w) (X.A.mark (some (.ref a))) (eval (.Name x np) X.env) Q E { s' with heap := h3 } := fun {Q E} q => by
          obtain ⟨hg, hdbg, hm | ⟨hm, hv, hnn⟩⟩ := hc
          · exact ld_glob (X := X.suite a ((a, oe3) :: (X.pn ++ pins))) S3 hg hm q hdbg
          · exact ld_blt (X := X.suite a ((a, oe3) :: (X.pn ++ pins))) S3 hg hm hv q hnn hdbg
        refine test (LM.here ?_)
        cases b with
        | false => exact ih (hno rfl)
        | true =>
          cases o with
          | none =>
            cases nm with
            | some n => exact hn.elim
            | none =>
              refine codeAny_handlers_suite ?_
              refine HandSPX.lands_againZ fl3 fun h4 fl4 up4 => ?_
              have J4 : Inv X pins σ' H' { s' with heap := h4 } := J.landed nb fl4.1 ((up.trans up3).trans up4) os ag
              obtain ⟨oe4, vs4, he4, hz4, hd4⟩ := fl4.there
              refine wpAny_mono ((hsu a oe4 cls d (X.pn ++ pins) hz4 ⟨_, hd4⟩).run [] _ _ H' _ (J4.suite he4 hd4 na nL nF) (hyes rfl a na)) (fun f s6 hsp => ?_) (fun _ _ z => False.elim z)
              cases f with
              | ret u =>
                obtain ⟨v6, σ6, H6, S6, r6, q6⟩ := hsp
                exact ⟨_, _, _, S6.unsuite ok, r6, q6⟩
              | _ =>
                obtain ⟨σ6, H6, S6, q6⟩ := hsp
                exact ⟨_, _, S6.unsuite ok, q6⟩
          | some i =>
            cases nm with
            | none => exact hn.elim
            | some n =>
              obtain ⟨hi, hln⟩ := hn
              refine codeAny_handlers_suite_as ?_
              refine HandSPX.lands_againZ fl3 fun h4 fl4 up4 => ?_
              have J4 : Inv X pins σ' H' { s' with heap := h4 } := J.landed nb fl4.1 ((up.trans up3).trans up4) os ag
              obtain ⟨oe4, vs4, he4, hz4, hd4⟩ := fl4.there
              refine store_ok (X := X.suite a ((a, oe4) :: (X.pn ++ pins))) (v := .ref a) (J4.suite he4 hd4 na nL nF) hN hi (.inl hln) rfl (fun s5 S5 => ?_) (.inr hln)
              refine wpAny_mono ((hsu a oe4 cls d (X.pn ++ pins) hz4 ⟨_, hd4⟩).run [] s5 _ H' _ S5 (hyes rfl a na)) (fun f s6 hsp => ?_) (fun _ _ z => False.elim z)
              cases f with
              | ret u =>
                obtain ⟨v6, σ6, H6, S6, r6, q6⟩ := hsp
                exact gone_ok (S6.unsuite ok) hN hi hln fun s7 J7 => ⟨_, _, _, J7, r6, q6⟩
              | _ =>
                obtain ⟨σ6, H6, S6, q6⟩ := hsp
                exact gone_ok (S6.unsuite ok) hN hi hln fun s7 J7 => ⟨_, _, J7, q6⟩
    exact go hh w
  · cases f with
    | next =>
      obtain ⟨σ', H', J', q⟩ := hsp
      exact wpAny_execs_nil ⟨σ', H', J'.ofTry ok, q⟩
    | ret u =>
      obtain ⟨v, σ', H', J', r, q⟩ := hsp
      exact ⟨v, σ', H', J'.ofTry ok, r, q⟩
    | _ =>
      obtain ⟨σ', H', J', q⟩ := hsp
      exact ⟨σ', H', J'.ofTry ok, q⟩
end
end My

/-! Kit8 -/
/-! enumerate(row), the row a tuple or a list -/
namespace PySem
open Sem (wp)
open AutoSeq1 (wpAny_loadPart')
theorem my_enum_newT (l : Addr) (items : Array Value) (n : Nat) (dct : Option Addr) (sl : Array (Option Value)) :
    Meets (Builtin.«enumerate.__new__» ⟨[.type "enumerate", .ref l], []⟩) (fun _ R s => s.heap.get? l = some { cls := .type "tuple", dict := dct, data := .seq items n, slots := sl } ∧
      R (.ok (.ret (.ref (s.heap.push { cls := .type "tuple_iterator", data := .fields #[.ref l, .int 0 0] }).objs.size)))
        { s with heap := (s.heap.push { cls := .type "tuple_iterator", data := .fields #[.ref l, .int 0 0] }).push { cls := .type "enumerate", data := .fields #[.none, .bool false, .ref s.heap.objs.size, rawInt 0, .none, .none] } }) :=
  .of_wp fun prog w A R s h => by
    obtain ⟨hp, g, d, tk, os⟩ := s
    obtain ⟨hl, h⟩ := h
    have hsub := sub_enumerate
    have hT : Heap.IsTuple (Shared.heap ⟨hp, g, d, tk, os⟩) l items := ⟨_, hl, rfl, n, rfl⟩
    wp_walk using wpAny_loadPart' hl
    refine wpAny_stack_any fun st => wpAny_pure ?_
    split
    · rename_i c _ _ _ _ _
      cases (c == Value.type "enumerate")
      · wp_walk using wpAny_loadPart' hl, wpAny_pyIter_tuple hT
        exact ⟨_, rfl, h⟩
      · wp_walk using wpAny_loadPart' hl, wpAny_pyIter_tuple hT
        exact ⟨_, rfl, h⟩
    · wp_walk using wpAny_loadPart' hl, wpAny_pyIter_tuple hT
      exact ⟨_, rfl, h⟩
section
variable {prog : Program} {w : World} {A : Around} {E : Value → Shared → Prop} {s : Shared}
theorem my_enum_tuple {l : Addr} {items : Array Value} {Q : Value → Shared → Prop} (hL : s.heap.IsTuple l items)
    (h : ∀ h', IsEnum h' (s.heap.objs.size + 1) s.heap.objs.size 0 .none → h'.IsTupleIter s.heap.objs.size l 0 → (∀ b o, s.heap.get? b = some o → h'.get? b = some o) → Q (.ref (s.heap.objs.size + 1)) { s with heap := h' }) :
    wpAny (model prog w) A (call (.type "enumerate") [.ref l]) Q E s := by
  obtain ⟨⟨c, dct, dt, sl⟩, hl, hc, n, hd⟩ := hL
  replace hc : c = .type "tuple" := hc
  replace hd : dt = .seq items n := hd
  subst hc hd
  refine callType_new F.called_enumerate (by decide) (F.typeCall_enumerate_1 _) (F.newCall_enumerate_1 _) (fun obj => F.args_object_init_2 obj _) F.entry_enumerate_new (my_enum_newT l items n dct sl) ⟨hl, ?_⟩
  generalize hh : s.heap.push { cls := .type "tuple_iterator", data := .fields #[.ref l, .int 0 0] } = h1
  have hz : h1.objs.size = s.heap.objs.size + 1 := by rw [← hh]; exact Heap.size_push ..
  have it1 : h1.get? s.heap.objs.size = some { cls := .type "tuple_iterator", data := .fields #[.ref l, .int 0 0] } := by rw [← hh]; exact Heap.get?_push_size _ rfl
  have up1 : ∀ b o, s.heap.get? b = some o → h1.get? b = some o := fun b o x => by rw [← hh]; exact Heap.get?_push_of_some _ x
  show _ ∧ _
  rw [hz]
  have he : IsEnum (h1.push { cls := .type "enumerate", data := .fields #[.none, .bool false, .ref s.heap.objs.size, rawInt 0, .none, .none] }) (s.heap.objs.size + 1) s.heap.objs.size 0 .none := by
    have := Heap.get?_push_size h1 (o := { cls := .type "enumerate", data := .fields #[.none, .bool false, .ref s.heap.objs.size, rawInt 0, .none, .none] }) rfl
    rw [hz] at this; exact this
  exact ⟨⟨_, he, rfl⟩, h _ he ⟨_, Heap.get?_push_of_some _ it1, rfl, rfl⟩ fun b o x => Heap.get?_push_of_some _ (up1 b o x)⟩
end
end PySem
namespace My
open PySem PySem.Spec PyProof.Rows L2
theorem tup_ne_iter {h : Heap} {a it t : Addr} {i : Nat} {items : Array Value} (hT : h.IsTuple a items) (hit : h.IsTupleIter it t i) : a ≠ it := by
  obtain ⟨o, ho, hc, _⟩ := hit
  obtain ⟨o2, ho2, hc2, _⟩ := hT
  intro z
  rw [z, ho] at ho2
  cases ho2
  rw [hc] at hc2
  exact absurd (Value.type.inj hc2) (by decide)
/-- the tuple at a, each item in a new pair -/
def Itet (K : PySem.W.Frag) (a : Addr) : It :=
  ⟨fun i H => ∃ (xs : List V) (x : V), SqT K H a xs ∧ xs[i]? = some x, fun i H v H' => ∃ T x, v = .ref T ∧ H T = none ∧ H' = upd H T (.tup [.int (i : Nat), x]) ∧ ∀ xs, SqT K H a xs → xs[i]? = some x, fun i H => ∃ xs : List V, SqT K H a xs ∧ xs.length = i⟩
theorem turn_enumT {P : Program} {w : World} {K : PySem.W.Frag} {elts : List Expr} {kk : Nat} {tpos : Pos} (a e it : Addr) :
    Turn P w K (.Tuple elts kk tpos) (Itet K a) [e, it] e (fun i h => (∃ old, IsEnum h e it ((i : Nat) : Int) old) ∧ h.IsTupleIter it a i ∧ e ≠ it) where
  mem := by simp
  obj := fun i h st b hb => by
    obtain ⟨⟨old, he⟩, ⟨o, ho, hc, hd⟩, _⟩ := st
    rcases (show b = e ∨ b = it by simpa using hb) with z | z
    · rw [z]; exact ⟨_, he, fun v q => nomatch q⟩
    · rw [z]; exact ⟨o, ho, fun v q => by rw [hd] at q; cases q⟩
  keep := fun i h h' st k => let ⟨⟨old, he⟩, hi, hne⟩ := st; ⟨⟨old, k e (by simp) _ he⟩, hi.at fun o q => k it (by simp) o q, hne⟩
  item := by
    intro X hP hw hK hc i pins s σ H E I hf st hg
    subst hP hw hK
    obtain ⟨⟨old, he⟩, hit, hne⟩ := st
    obtain ⟨xs, x, hq, hx⟩ := hg
    obtain ⟨its, rv, p, hz⟩ := I.tuple hq
    have hT : s.heap.IsTuple a its.toArray := p
    obtain ⟨u, hu, ru⟩ := rv.get hx
    have hel : e < s.heap.objs.size := Heap.lt_size he
    have hil : it < s.heap.objs.size := by obtain ⟨_, q, _⟩ := hit; exact Heap.lt_size q
    have ane : a ≠ it := tup_ne_iter hT hit
    have ane2 : e ≠ a := by
      obtain ⟨o2, ho2, hc2, _⟩ := hT
      intro z
      rw [← z] at ho2
      have := he.symm.trans ho2
      cases this
      exact absurd (Value.type.inj hc2) (by decide)
    have hlt : i < its.toArray.size := by have := (List.getElem?_eq_some_iff.mp hu).1; simpa using this
    refine wpAny_pyNext_enum_itemD (Draws.tuple (A := X.A.in1) (I.ok.hd hc) it a ane its.toArray) he ⟨hit, hT⟩ hlt hne (by simp [hne, ane2]) fun x' h' tk hP' ho hit' hTp hsz hk => ?_
    have ex : x' = u := by
      have : its.toArray[i]? = some u := by simpa using hu
      exact Option.some.inj (hP'.symm.trans this)
    subst ex
    refine ⟨_, rfl, wpAny_letOwnedTupleGo_enum (s := { s with heap := h', toks := tk + 1 }) ho fun h'' he' sb => ?_⟩
    have hT2 : h''.get? s.heap.objs.size = some { cls := .type "tuple", data := .seq #[.int i tk, x'] } := (sb.2 _ (Nat.ne_of_gt hel)).trans hTp
    have new : ObjOk X.prog X.w (upd H s.heap.objs.size (.tup [.int (i : Nat), x])) h'' s.heap.objs.size (.tup [.int (i : Nat), x]) :=
      ⟨by show 2 ≤ sizeLine; decide, [.int i tk, x'], .cons ⟨_, rfl⟩ (.cons ru .nil), ⟨_, hT2, rfl, _, rfl⟩⟩
    have I1 : Inv X pins σ (upd H s.heap.objs.size (.tup [.int (i : Nat), x])) { s with heap := h'', toks := tk + 1 } :=
      I.turnedNew (ch := [e, it]) (fun b ob hb q => (sb.2 b (fun z => hb (by simp [z]))).trans (hk b ob (fun z => hb (by simp [z])) (fun z => hb (by simp [z])) q)) hf (Nat.le_refl _) new
    refine ⟨.ref s.heap.objs.size, _, I1, rfl, ⟨_, x, rfl, I.hok.fresh (Nat.le_refl _), rfl, fun ys hy => by rw [I.tuple_inj hy hq]; exact hx⟩, ⟨⟨x', ?_⟩, hit'.1.at fun o q => (sb.2 it (Ne.symm hne)).trans q, hne⟩, fun b hb => ?_⟩
    · have e1 : ((i + 1 : Nat) : Int) = (i : Int) + 1 := by omega
      rw [e1]; exact he'
    · have hb' : b < s.heap.objs.size := by
        rcases (show b = e ∨ b = it by simpa using hb) with z | z
        · rw [z]; exact hel
        · rw [z]; exact hil
      rw [upd_ne (Nat.ne_of_lt hb')]
      exact (hf b hb).1
  done := by
    intro X hP hw hK hc i pins s σ H E I hf st hg
    subst hP hw hK
    obtain ⟨⟨old, he⟩, hit, hne⟩ := st
    obtain ⟨xs, hq, hx⟩ := hg
    obtain ⟨its, rv, p, hz⟩ := I.tuple hq
    have hT : s.heap.IsTuple a its.toArray := p
    obtain ⟨f0, f1, f2, f3, f4, f5⟩ := hf it (by simp)
    have hl := rv.length
    have ane : a ≠ it := tup_ne_iter hT hit
    have hi : i = its.toArray.size := by rw [List.size_toArray]; omega
    subst hi
    exact wpAny_pyNext_enum_endD (Draws.tuple (A := X.A.in1) (I.ok.hd hc) it a ane its.toArray) he ⟨hit, hT⟩ fun h' eb => ⟨rfl, I.turned (t' := s.toks) (fun b o hb q => eb b o hb q) f0 f1 f3 f4 f5⟩
  self := fun A i s Q E st h => let ⟨⟨_, he⟩, _⟩ := st; wpAny_pyIter_enum he h
theorem walk_enumT {K : PySem.W.Frag} {a : Addr} {xs : List V} : Walk (Itet K a) xs.length (fun H => SqT K H a xs) (YPair (fun i => some (.int (i : Nat))) (fun i => xs[i]?)) := by
  refine ⟨fun i _ hi q => ⟨xs, xs[i], q, by simp [hi]⟩, fun _ q => ⟨xs, q, rfl⟩, fun i H v H' _ q y => ?_⟩
  obtain ⟨T, x, h1, h2, h3, h4⟩ := y
  exact ⟨T, .int (i : Nat), x, h1, h2, h3, rfl, h4 xs q⟩
/-- over enumerate(row) -/
def iEnS (ta : TA) : TI := fun σ H R => ta σ H fun vs H1 => ∃ (a : Addr) (xs : List V), vs = [.ref a] ∧ Row H1 a xs ∧ ∀ (J : It) (G : Hp → Prop), Walk J xs.length G (YPair (fun i => some (.int (i : Nat))) (fun i => xs[i]?)) → (∀ H' : Hp, H' a = H1 a → G H') → R J H1
theorem pi_enS {X : Cx} {e : Expr} {ta : TA} {p pos tpos : Pos} {elts : List Expr} {kk : Nat} (hg : Gl X "enumerate") (hm : X.mg "enumerate" = none) (ha : PA X [e] ta) (hs : starEach [e] X.env = [(false, eval e X.env)] := by rfl) :
    PI X (.Tuple elts kk tpos) (.Call (.Name "enumerate" p) [e] [] pos) (iEnS ta) := by
  refine ⟨fun pins s σ H R I h => ?_⟩
  refine Call_ (ld_blt I hg hm boot_enumerate (PyProof.Rows.callWith_type1 (thn (ha.run pos pins s σ H _ I h) fun us s1 ⟨vs, H1, I1, r1, q1⟩ => ?_) hs rfl))
  obtain ⟨a, xs, rfl, hr, q⟩ := q1
  obtain ⟨u, rfl, ru⟩ := vals1 r1
  cases ru
  rcases hr with hr | hr
  · obtain ⟨its, rv, p', hz⟩ := I1.list (SqL.of hr)
    refine call_enumerate_list p'.isList fun h' he hit hsz hk => wpAny_pyIter_enum he ?_
    have I2 : Inv X pins σ H1 { s1 with heap := h' } := I1.kept (t' := s1.toks) hk
    refine ⟨s1.heap.objs.size + 1, [s1.heap.objs.size + 1, s1.heap.objs.size], _, _, H1, rfl, I2, turn_enum a (s1.heap.objs.size + 1) s1.heap.objs.size, ⟨⟨.none, he⟩, hit, Nat.succ_ne_self _⟩, fun b hb => ?_, q _ _ walk_enum fun H' e => SqL.of (e.trans hr)⟩
    have hle : s1.heap.objs.size ≤ b := by
      rcases (show b = s1.heap.objs.size + 1 ∨ b = s1.heap.objs.size by simpa using hb) with z | z
      · rw [z]; exact Nat.le_add_right _ _
      · rw [z]; exact Nat.le_refl _
    exact I1.fpOk hle (I1.hok.fresh hle)
  · obtain ⟨its, rv, p', hz⟩ := I1.tuple (SqT.of hr)
    refine my_enum_tuple (show s1.heap.IsTuple a its.toArray from p') fun h' he hit hk => wpAny_pyIter_enum he ?_
    have I2 : Inv X pins σ H1 { s1 with heap := h' } := I1.kept (t' := s1.toks) hk
    refine ⟨s1.heap.objs.size + 1, [s1.heap.objs.size + 1, s1.heap.objs.size], _, _, H1, rfl, I2, turn_enumT a (s1.heap.objs.size + 1) s1.heap.objs.size, ⟨⟨.none, he⟩, hit, Nat.succ_ne_self _⟩, fun b hb => ?_, q _ _ walk_enumT fun H' e => SqT.of (e.trans hr)⟩
    have hle : s1.heap.objs.size ≤ b := by
      rcases (show b = s1.heap.objs.size + 1 ∨ b = s1.heap.objs.size by simpa using hb) with z | z
      · rw [z]; exact Nat.le_add_right _ _
      · rw [z]; exact Nat.le_refl _
    exact I1.fpOk hle (I1.hok.fresh hle)
end My

/-! KitL1 -/
/-! list(x), x an iterator whose items are new pairs that stay (enumerate, zip) -/
namespace PySem.W
open PySem PySem.Calls PyProof.Rows PyProof.V PySem.Spec
theorem enumerate_no_len : typeLookup (.type "enumerate") "__len__" = pure none := by rw [typeLookup_type, builtinLookup_eq_fast]; kernel_rfl
theorem enumerate_no_hint : typeLookup (.type "enumerate") "__length_hint__" = pure none := by rw [typeLookup_type, builtinLookup_eq_fast]; kernel_rfl
theorem zip_no_len : typeLookup (.type "zip") "__len__" = pure none := by rw [typeLookup_type, builtinLookup_eq_fast]; kernel_rfl
theorem zip_no_hint : typeLookup (.type "zip") "__length_hint__" = pure none := by rw [typeLookup_type, builtinLookup_eq_fast]; kernel_rfl
/-- the addresses as hold the pairs, in order, as tuples; they lie above lo and rise -/
structure PlG (Rel : Nat → Value → Value → Prop) (lo : Addr) (h : Heap) (as : List Addr) : Prop where
  rise : as.Pairwise (· < ·)
  above : ∀ a ∈ as, lo < a
  pairs : ∀ (j : Nat) (a : Addr), as[j]? = some a → ∃ k v, Rel j k v ∧ h.get? a = some { cls := .type "tuple", data := .seq #[k, v] }
theorem PlG.there {Rel : Nat → Value → Value → Prop} {lo : Addr} {h : Heap} {as : List Addr} (g : PlG Rel lo h as) {a : Addr} (ha : a ∈ as) : a < h.objs.size := by
  obtain ⟨j, hj⟩ := List.mem_iff_getElem?.mp ha
  obtain ⟨_, _, _, e⟩ := g.pairs j a hj
  exact Heap.lt_size e
/-- an iterator whose n items are new pairs, while at S a list grows -/
structure LSrc (prog : Program) (w : World) (A : Around) (I S : Addr) (wr : List Addr) (n : Nat) (Rel : Nat → Value → Value → Prop) (St : Nat → Heap → Prop) : Prop where
  low : ∀ b ∈ wr, b < S
  frame : ∀ i h h', St i h → (∀ b o, b ≠ S → h.get? b = some o → h'.get? b = some o) → St i h'
  item : ∀ i (s : Shared) (Q : Option Value → Shared → Prop) (E : Value → Shared → Prop), i < n → St i s.heap → S < s.heap.objs.size →
    (∀ k v h' tk, Rel i k v → h'.get? s.heap.objs.size = some { cls := .type "tuple", data := .seq #[k, v] } → St (i + 1) h' → (∀ b o, b ∉ wr → s.heap.get? b = some o → h'.get? b = some o) → Q (some (.ref s.heap.objs.size)) { s with heap := h', toks := tk }) →
    wpAny (model prog w) A (pyNext (.ref I)) Q E s
  done : ∀ (s : Shared) (Q : Option Value → Shared → Prop) (E : Value → Shared → Prop), St n s.heap →
    (∀ h' tk, (∀ b o, b ∉ wr → s.heap.get? b = some o → h'.get? b = some o) → Q none { s with heap := h', toks := tk }) → wpAny (model prog w) A (pyNext (.ref I)) Q E s
section
variable {prog : Program} {w : World} {A : Around} {s : Shared} {R : Result → Shared → Prop} {I S : Addr} {wr : List Addr} {n : Nat} {Rel : Nat → Value → Value → Prop} {St : Nat → Heap → Prop}
theorem LSrc.off (L : LSrc prog w A I S wr n Rel St) : S ∉ wr := fun z => Nat.lt_irrefl _ (L.low S z)
theorem LSrc.over (L : LSrc prog w A I S wr n Rel St) {b : Addr} (hb : S < b) : b ∉ wr := fun z => Nat.lt_irrefl _ (Nat.lt_trans hb (L.low b z))
theorem pl_loop (L : LSrc prog w A.in1 I S wr n Rel St) (hn : n ≤ sizeLine) (res : Value) {h₁ : Heap}
    (hR : ∀ h' tk acc c as, (∀ b o, b ≠ S → b ∉ wr → h₁.get? b = some o → h'.get? b = some o) → h'.get? S = some { cls := .type "list", dict := none, data := .seq acc c, slots := #[] } → as.length = n → PlG Rel S h' as →
      acc.toList = as.map Value.ref → R (.ok (.ret res)) { s with heap := h', toks := tk }) :
    ∀ (k i : Nat) (h : Heap) (tk c : Nat) (acc : Array Value) (as : List Addr), n - i = k → i ≤ n → St i h → (∀ b o, b ≠ S → b ∉ wr → h₁.get? b = some o → h.get? b = some o) →
      h.get? S = some { cls := .type "list", dict := none, data := .seq acc c, slots := #[] } → acc.toList = as.map Value.ref → as.length = i → PlG Rel S h as →
      codeAny (model prog w) A (.builtin "list.extend.loop" ⟨[.ref S, .ref I, res], []⟩) R { s with heap := h, toks := tk } := by
  intro k
  induction k with
  | zero =>
    intro i h tk c acc as hk hi hst hkeep hS hacc hal hG
    have hin : i = n := by omega
    subst hin
    refine codeAny_builtin PySem.F.entry_extend_loop ?_
    rw [Around.under_plainId PySem.F.plain_extend_loop _]
    show wpAny _ A.in1 (pyNext (.ref I) >>= _) _ _ _
    refine wpAny_bind (L.done { s with heap := h, toks := tk } _ _ hst fun h' tk' he => ?_)
    refine wpAny_pure (hR h' tk' acc c as (fun b o h1 h2 e => he b o h2 (hkeep b o h1 h2 e)) (he S _ L.off hS) hal ⟨hG.rise, hG.above, fun j a hj => ?_⟩ hacc)
    obtain ⟨kk, v, r, e3⟩ := hG.pairs j a hj
    exact ⟨kk, v, r, he a _ (L.over (hG.above a (List.mem_of_getElem? hj))) e3⟩
  | succ k ih =>
    intro i h tk c acc as hk hi hst hkeep hS hacc hal hG
    have hlt : i < n := by omega
    have hsz : acc.size = i := by rw [← Array.length_toList, hacc, List.length_map, hal]
    have hSl : S < h.objs.size := Heap.lt_size hS
    refine codeAny_builtin PySem.F.entry_extend_loop ?_
    rw [Around.under_plainId PySem.F.plain_extend_loop _]
    show wpAny _ A.in1 (pyNext (.ref I) >>= _) _ _ _
    refine wpAny_bind (L.item i { s with heap := h, toks := tk } _ _ hlt hst hSl fun kk v h' tk' hrel ht hst' hkp => ?_)
    dsimp only at ht hkp ⊢
    have hS' := hkp S _ L.off hS
    have up : ∀ b o, b ≠ S → h'.get? b = some o → (h'.update S (Obj.mapSeq (·.push (Value.ref h.objs.size)))).get? b = some o := fun b o hb e => (Heap.get?_update_other _ _ (Ne.symm hb)).trans e
    show wpAny _ A.in1 (updateSeq S (·.push (Value.ref h.objs.size)) >>= _) _ _ _
    refine wpAny_bind ?_
    refine wpAny_updateSeq hS' rfl (wpAny_pure ⟨plainId_quiet PySem.F.plain_extend_loop _, ih (i + 1) _ tk' _ (acc.push (Value.ref h.objs.size)) (as ++ [h.objs.size]) (by omega) hlt (L.frame _ _ _ hst' fun b o hb e => up b o hb e)
      (fun b o h1 h2 e => up b o h1 (hkp b o h2 (hkeep b o h1 h2 e))) (Heap.get?_update_self _ hS' rfl) (by rw [Array.toList_push, hacc, List.map_append]; rfl) (by rw [List.length_append, hal]; rfl) ⟨?_, ?_, ?_⟩⟩) (by rw [hsz]; omega) (by show (acc.push (Value.ref h.objs.size)).size ≤ sizeLine + 1; rw [Array.size_push, hsz]; omega)
    · refine List.pairwise_append.mpr ⟨hG.rise, List.pairwise_singleton _ _, fun a ha b hb => ?_⟩
      rw [List.mem_singleton.mp hb]
      exact hG.there ha
    · intro a ha
      rcases List.mem_append.mp ha with ha | ha
      · exact hG.above a ha
      · rw [List.mem_singleton.mp ha]; exact hSl
    · intro j b hj
      rcases Nat.lt_trichotomy j as.length with h1 | h1 | h1
      · rw [List.getElem?_append_left h1] at hj
        obtain ⟨k1, v1, r1, e3⟩ := hG.pairs j b hj
        have hb := hG.above b (List.mem_of_getElem? hj)
        exact ⟨k1, v1, r1, up b _ (Nat.ne_of_gt hb) (hkp b _ (L.over hb) e3)⟩
      · subst h1
        have hb : h.objs.size = b := by simpa using hj
        subst hb
        exact ⟨kk, v, by rw [hal]; exact hrel, up _ _ (Nat.ne_of_gt hSl) ht⟩
      · have hnone : (as ++ [h.objs.size])[j]? = none := List.getElem?_eq_none (by rw [List.length_append, List.length_singleton]; omega)
        rw [hnone] at hj; cases hj
theorem pl_extend {T : String} (hlen : typeLookup (.type T) "__len__" = pure none) (hhint : typeLookup (.type T) "__length_hint__" = pure none) (n2 : (Value.type T == Value.type "list") = false) (n3 : (Value.type T == Value.type "tuple") = false)
    (L : LSrc prog w A.in1 I S wr n Rel St) (hT : s.TypeIs (.ref I) T) (hIS : I ≠ S) (self : ∀ (E : Value → Shared → Prop) (Q : Value → Shared → Prop), Q (.ref I) s → wpAny (model prog w) A.in1 (pyIter (.ref I)) Q E s) (hst : St 0 s.heap) (res : Value) (c₀ : Nat)
    (hS : s.heap.get? S = some { cls := .type "list", data := .seq #[] c₀ })
    (hR : ∀ h' tk acc c as, (∀ b o, b ≠ S → b ∉ wr → s.heap.get? b = some o → h'.get? b = some o) → h'.get? S = some { cls := .type "list", dict := none, data := .seq acc c, slots := #[] } → as.length = n → PlG Rel S h' as →
      acc.toList = as.map Value.ref → R (.ok (.ret res)) { s with heap := h', toks := tk }) (hn : n ≤ sizeLine) :
    wpAny (model prog w) A.in1 (Builtin.List.listExtendWith (.ref S) (.ref I) res)
      (fun fin s' => match fin with | .done f => R (.ok f) s' | .again c' => c'.quiet = true ∧ codeAny (model prog w) A c' R s') (fun e s' => R (.error e) s') s := by
  unfold Builtin.List.listExtendWith
  refine wpAny_bind (wpAny_typeOf hT ?_)
  have h1 : Builtin.List.listSameRef (.ref S) (.ref I) = false := by simp [Builtin.List.listSameRef, Ne.symm hIS]
  simp only [h1, n2, n3, Bool.or_false, Bool.false_eq_true, if_false]
  refine wpAny_bind (self _ _ ?_)
  refine wpAny_bind (wpAny_holding ?_)
  unfold Builtin.List.listLengthHint
  refine wpAny_bind (wpAny_specialOf hT hlen ?_)
  show wpAny _ A.in1 (specialOf (Value.ref I) (Str.ofString "__length_hint__") >>= _) _ _ _
  refine wpAny_bind (wpAny_specialOf hT hhint ?_)
  refine wpAny_pure ?_
  show wpAny _ A.in1 (rule "list.extend.makes-room" >>= fun _ => Builtin.List.listTouch (.ref S) >>= fun _ =>
    again (.builtin "list.extend.loop" ⟨[.ref S, .ref I, res], []⟩)) _ _ _
  refine wpAny_bind (wpAny_rule ?_)
  refine wpAny_bind ?_
  show wpAny _ A.in1 (updateSeq S (·.push .none) >>= fun _ => updateSeq S (·.pop)) _ _ _
  refine wpAny_bind (wpAny_updateSeq hS rfl ?_)
  have hS₂ := Heap.get?_update_self (Obj.mapSeq (·.push Value.none)) hS rfl
  refine wpAny_updateSeq (hz := by seq_fits) hS₂ rfl ?_
  have hS₃ := Heap.get?_update_self (Obj.mapSeq (·.pop)) hS₂ rfl
  have oth : ∀ b o, b ≠ S → s.heap.get? b = some o → ((s.heap.update S (Obj.mapSeq (·.push Value.none))).update S (Obj.mapSeq (·.pop))).get? b = some o :=
    fun b o hb e => (Heap.get?_update_other _ _ (Ne.symm hb)).trans ((Heap.get?_update_other _ _ (Ne.symm hb)).trans e)
  exact wpAny_pure ⟨plainId_quiet PySem.F.plain_extend_loop _, pl_loop (s := s) (h₁ := s.heap) L hn res hR n 0 _ s.toks _ #[] [] (Nat.sub_zero _) (Nat.zero_le _) (L.frame _ _ _ hst oth)
    (fun b o hb _ e => oth b o hb e) hS₃ rfl rfl ⟨List.Pairwise.nil, (fun _ ha => nomatch ha), (fun j a hj => by simp at hj)⟩⟩
theorem pl_init {T : String} (hlen : typeLookup (.type T) "__len__" = pure none) (hhint : typeLookup (.type T) "__length_hint__" = pure none) (n2 : (Value.type T == Value.type "list") = false) (n3 : (Value.type T == Value.type "tuple") = false)
    (L : LSrc prog w A.in1 I S wr n Rel St) (hT : ∀ s' : Shared, St 0 s'.heap → s'.TypeIs (.ref I) T) (hIS : I ≠ S) (self : ∀ (s' : Shared) (E : Value → Shared → Prop) (Q : Value → Shared → Prop), St 0 s'.heap → Q (.ref I) s' → wpAny (model prog w) A.in1 (pyIter (.ref I)) Q E s') (hst : St 0 s.heap)
    (hS : s.heap.get? S = some { cls := .type "list", data := .seq #[] })
    (hR : ∀ h' tk acc c as, (∀ b o, b ≠ S → b ∉ wr → s.heap.get? b = some o → h'.get? b = some o) → h'.get? S = some { cls := .type "list", dict := none, data := .seq acc c, slots := #[] } → as.length = n → PlG Rel S h' as →
      acc.toList = as.map Value.ref → R (.ok (.ret .none)) { s with heap := h', toks := tk }) (hn : n ≤ sizeLine) :
    wpAny (model prog w) A.in1 (Builtin.«list.__init__» ⟨[.ref S, .ref I], []⟩)
      (fun fin s' => match fin with | .done f => R (.ok f) s' | .again c' => c'.quiet = true ∧ codeAny (model prog w) A c' R s') (fun e s' => R (.error e) s') s := by
  show wpAny _ _ (do let old ← Builtin.List.listItems (.ref S); Builtin.List.listUpdate (.ref S) (fun _ => #[]); letGo old.toList.reverse; Builtin.List.listExtendWith (.ref S) (.ref I) .none) _ _ s
  refine wpAny_bind ?_
  unfold Builtin.List.listItems
  refine wpAny_bind (wpAny_seqItems hS rfl (wpAny_pure ?_))
  show wpAny _ _ (updateSeq S (fun _ => #[]) >>= fun _ => letGo (#[] : Array Value).toList.reverse >>= fun _ => Builtin.List.listExtendWith (.ref S) (.ref I) .none) _ _ s
  refine wpAny_bind (wpAny_updateSeq hS rfl ?_)
  have hS₂ := Heap.get?_update_self (Obj.mapSeq (fun _ => (#[] : Array Value))) hS rfl
  have oth : ∀ b o, b ≠ S → s.heap.get? b = some o → (s.heap.update S (Obj.mapSeq (fun _ => (#[] : Array Value)))).get? b = some o :=
    fun b o hb e => (Heap.get?_update_other _ _ (Ne.symm hb)).trans e
  have st2 := L.frame _ _ _ hst oth
  refine wpAny_bind (wpAny_letGo ?_)
  refine pl_extend hlen hhint n2 n3 L (hT _ st2) hIS (fun E Q q => self _ E Q st2 q) st2 .none _ hS₂ (fun h' tk acc c as hk hS' hl hG hacc => ?_) hn
  exact hR h' tk acc c as (fun b o hb hw e => hk b o hb hw (oth b o hb e)) hS' hl hG hacc
end
section
variable {prog : Program} {w : World} {A : Around} {E : Value → Shared → Prop} {s : Shared} {I : Addr} {wr : List Addr} {n : Nat} {Rel : Nat → Value → Value → Prop} {St : Addr → Nat → Heap → Prop}
/-- list(x) of such an iterator -/
theorem pl_call {T : String} {Q : Value → Shared → Prop} (hlen : typeLookup (.type T) "__len__" = pure none) (hhint : typeLookup (.type T) "__length_hint__" = pure none) (n2 : (Value.type T == Value.type "list") = false) (n3 : (Value.type T == Value.type "tuple") = false)
    (L : ∀ S, s.heap.objs.size ≤ S → LSrc prog w A.in1.in1 I S wr n Rel (St S)) (hT : ∀ (S : Addr) (s' : Shared), St S 0 s'.heap → s'.TypeIs (.ref I) T) (hI : I < s.heap.objs.size) (self : ∀ S (s' : Shared) (E : Value → Shared → Prop) (Q : Value → Shared → Prop), St S 0 s'.heap → Q (.ref I) s' → wpAny (model prog w) A.in1.in1 (pyIter (.ref I)) Q E s')
    (hst : ∀ (S : Addr) (h' : Heap), s.heap.objs.size ≤ S → (∀ b o, s.heap.get? b = some o → h'.get? b = some o) → St S 0 h') (hn : n ≤ sizeLine)
    (hQ : ∀ h' tk acc c as, (∀ b o, b ∉ wr → s.heap.get? b = some o → h'.get? b = some o) → h'.get? s.heap.objs.size = some { cls := .type "list", dict := none, data := .seq acc c, slots := #[] } → as.length = n → PlG Rel s.heap.objs.size h' as →
      acc.toList = as.map Value.ref → Q (.ref s.heap.objs.size) { s with heap := h', toks := tk }) :
    wpAny (model prog w) A (call (.type "list") [.ref I]) Q E s := by
  refine callType_codes (Q₁ := fun obj s₁ => obj = .ref s.heap.objs.size ∧ s₁ = { s with heap := s.heap.push { cls := .type "list", data := .seq #[] } }) PySem.F.called_list (PySem.F.typeCall_list_1 _) PySem.F.entry_list_init
    (code_list_new _ ⟨rfl, rfl⟩) fun obj s₁ h₁ => ?_
  obtain ⟨rfl, rfl⟩ := h₁
  have hS : (s.heap.push { cls := .type "list", data := .seq #[] }).get? s.heap.objs.size = some { cls := .type "list", data := .seq #[] } := Heap.get?_push_size _ rfl
  refine ⟨⟨_, hS, rfl⟩, PySem.F.args_list_init_2 _ _, pl_init (A := A.in1) hlen hhint n2 n3 (L _ (Nat.le_refl _)) (hT _) (Nat.ne_of_lt hI) (self _) (hst _ _ (Nat.le_refl _) fun b o e => Heap.get?_push_of_some _ e) hS (fun h' tk acc c as hk hS' hl hG hacc => ?_) hn⟩
  exact ⟨rfl, hQ h' tk acc c as (fun b o hw e => hk b o (Nat.ne_of_lt (Heap.lt_size e)) hw (Heap.get?_push_of_some _ e)) hS' hl hG hacc⟩
end
end PySem.W

/-! KitL2 -/
/-! enumerate, zip over any drawn iterators, while the tuple given out before is still there -/
namespace PySem
open Sem (wp)
section
variable {prog : Program} {w : World} {A : Around} {E : Value → Shared → Prop} {s : Shared}
theorem my_enum_item_held {e it T : Addr} {fp : List Addr} {n i : Nat} {c : Int} {P : Nat → Value → Prop} {St : Nat → Heap → Prop} {old : Value} {f : Bool} {oT : Obj} {Q : Value → Shared → Prop}
    (D : Draws prog w A it fp n P St) (he : IsEnumHeld s.heap e it c old T f) (hT : s.heap.get? T = some oT) (hTe : T ≠ e) (hTi : T ≠ it) (hst : St i s.heap) (hlt : i < n) (hne : e ≠ it) (hef : e ∉ fp)
    (hQ : ∀ x h' tk, P i x → IsEnumHeld h' e it (c + 1) old T true → St (i + 1) h' →
      h'.get? s.heap.objs.size = some { cls := .type "tuple", data := .seq #[.int c tk, x] } → h'.objs.size = s.heap.objs.size + 1 →
      (∀ b o, b ≠ e → b ≠ it → s.heap.get? b = some o → h'.get? b = some o) → Q (.ref s.heap.objs.size) { s with heap := h', toks := tk + 1 }) :
    wpAny (model prog w) A (Builtin.«enumerate.__next__» ⟨[.ref e], []⟩) (fun fin s' => ∃ v, fin = .done (.ret v) ∧ Q v s') E s := by
  obtain ⟨hp, g, d, tk₀, os⟩ := s
  show wpAny _ _ (field (.ref e) 2 >>= _) _ _ _
  refine wpAny_bind (wpAny_field he rfl (x := .ref it) rfl ?_)
  refine wpAny_bind (D.item i _ _ _ hlt hst fun x h₁ tk hPx hit₁ hs₁ => ?_)
  replace hs₁ : Heap.SameBut it hp h₁ := hs₁
  have he₁ : IsEnumHeld h₁ e it c old T f := (hs₁.2 e hne).trans he
  show wpAny _ _ (field (.ref e) 3 >>= _) _ _ ⟨h₁, g, d, tk, os⟩
  refine wpAny_bind (wpAny_field he₁ rfl (x := rawInt c) rfl ?_)
  show wpAny _ _ (field (.ref e) 4 >>= _) _ _ ⟨h₁, g, d, tk, os⟩
  refine wpAny_bind (wpAny_field he₁ rfl (x := .none) rfl ?_)
  show wpAny _ _ (mkInt c >>= _) _ _ ⟨h₁, g, d, tk, os⟩
  refine wpAny_bind (wpAny_mkInt ?_)
  show wpAny _ _ (setField (.ref e) 3 (rawInt (c + 1)) >>= _) _ _ ⟨h₁, g, d, tk + 1, os⟩
  refine wpAny_bind (wpAny_setField_rec he₁ (by simp) fun h₂ he₂ hs₂ => ?_)
  replace hs₂ : Heap.SameBut e h₁ h₂ := hs₂
  replace he₂ : IsEnumHeld h₂ e it (c + 1) old T f := he₂
  show wpAny _ _ (setField (.ref e) 4 .none >>= _) _ _ ⟨h₂, g, d, tk + 1, os⟩
  refine wpAny_bind (wpAny_setField_rec he₂ (by simp) fun h₃ he₃ hs₃ => ?_)
  replace hs₃ : Heap.SameBut e h₂ h₃ := hs₃
  replace he₃ : IsEnumHeld h₃ e it (c + 1) old T f := he₃
  show wpAny _ _ (newTuple [.int c tk, x] >>= _) _ _ ⟨h₃, g, d, tk + 1, os⟩
  refine wpAny_bind (wpAny_newTuple ?_)
  have he₄ : IsEnumHeld (h₃.push { cls := .type "tuple", data := .seq #[.int c tk, x] }) e it (c + 1) old T f := Heap.get?_push_of_some _ he₃
  generalize hh₄ : h₃.push { cls := .type "tuple", data := .seq #[.int c tk, x] } = h₄ at he₄
  have hsz : h₃.objs.size = hp.objs.size := by rw [hs₃.1, hs₂.1, hs₁.1]
  have hel : e < hp.objs.size := Heap.lt_size he
  have ht₄ : h₄.get? hp.objs.size = some { cls := .type "tuple", data := .seq #[.int c tk, x] } := by rw [← hh₄, ← hsz]; exact Heap.get?_push_size _ rfl
  have hz₄ : h₄.objs.size = hp.objs.size + 1 := by rw [← hh₄, Heap.size_push, hsz]
  have hk₄ : ∀ b o, b ≠ e → b ≠ it → hp.get? b = some o → h₄.get? b = some o := fun b o hbe hbi hb => by
    rw [← hh₄]; exact Heap.get?_push_of_some _ (hs₃.extBut b o hbe (hs₂.extBut b o hbe (hs₁.extBut b o hbi hb)))
  have hit₄ : St (i + 1) h₄ := D.frame _ _ _ hit₁ fun b hb o y => by
    have hbe : b ≠ e := fun q => hef (q ▸ hb)
    rw [← hh₄]; exact Heap.get?_push_of_some _ (hs₃.extBut b o hbe (hs₂.extBut b o hbe y))
  show wpAny _ _ (Builtin.SmallTypes.ownedTupleIsFree (.ref e) >>= _) _ _ ⟨h₄, g, d, tk + 1, os⟩
  rw [hsz]
  clear hh₄ he₃ hs₃ he₂ hs₂ he₁ hs₁ hit₁ hsz h₃ h₂ h₁
  refine wpAny_bind (wpAny_tupleHeld_enum (s := ⟨h₄, g, d, tk + 1, os⟩) he₄ (hk₄ T oT hTe hTi hT) fun h₅ he₅ hs₅ => ?_)
  replace hs₅ : Heap.SameBut e h₄ h₅ := hs₅
  simp only [Bool.false_eq_true, if_false]
  refine wpAny_pure ⟨_, rfl, hQ x h₅ tk hPx he₅ (D.over hit₄ hs₅ hef) (hs₅.extBut _ _ (Nat.ne_of_gt hel) ht₄) ?_ fun b o hbe hbi hb => hs₅.extBut b o hbe (hk₄ b o hbe hbi hb)⟩
  show h₅.objs.size = hp.objs.size + 1
  rw [hs₅.1, hz₄]
theorem my_pyNext_enum_item_held {e it T : Addr} {fp : List Addr} {n i : Nat} {c : Int} {P : Nat → Value → Prop} {St : Nat → Heap → Prop} {old : Value} {f : Bool} {oT : Obj} {Q : Option Value → Shared → Prop}
    (D : Draws prog w A.in1 it fp n P St) (he : IsEnumHeld s.heap e it c old T f) (hT : s.heap.get? T = some oT) (hTe : T ≠ e) (hTi : T ≠ it) (hst : St i s.heap) (hlt : i < n) (hne : e ≠ it) (hef : e ∉ fp)
    (hQ : ∀ x h' tk, P i x → IsEnumHeld h' e it (c + 1) old T true → St (i + 1) h' →
      h'.get? s.heap.objs.size = some { cls := .type "tuple", data := .seq #[.int c tk, x] } → h'.objs.size = s.heap.objs.size + 1 →
      (∀ b o, b ≠ e → b ≠ it → s.heap.get? b = some o → h'.get? b = some o) → Q (some (.ref s.heap.objs.size)) { s with heap := h', toks := tk + 1 }) :
    wpAny (model prog w) A (pyNext (.ref e)) Q E s := by
  have hTy : s.TypeIs (.ref e) "enumerate" := ⟨_, he, rfl⟩
  unfold pyNext
  exact wpAny_bind (wpAny_attempt (wpAny_callSpecial?_slot (name := Str.ofString "__next__") hTy F.slot_enumerate_next
    (wpAny_call_entry F.slot_enumerate_next hTy F.entry_enumerate_next
      (my_enum_item_held D he hT hTe hTi hst hlt hne hef fun x h' tk a0 a1 a2 a3 a4 a5 => wpAny_pure (hQ x h' tk a0 a1 a2 a3 a4 a5)) (F.args_enumerate_next_1 _))))
theorem my_pyNext_enum_end_held {e it T : Addr} {fp : List Addr} {n : Nat} {c : Int} {P : Nat → Value → Prop} {St : Nat → Heap → Prop} {old : Value} {f : Bool} {Q : Option Value → Shared → Prop}
    (D : Draws prog w A.in1 it fp n P St) (he : IsEnumHeld s.heap e it c old T f) (hst : St n s.heap) (hQ : ∀ h', Heap.ExtBut it s.heap h' → Q none { s with heap := h' }) : wpAny (model prog w) A (pyNext (.ref e)) Q E s := by
  have hTy : s.TypeIs (.ref e) "enumerate" := ⟨_, he, rfl⟩
  unfold pyNext
  refine wpAny_bind (wpAny_attempt (wpAny_callSpecial?_slot (name := Str.ofString "__next__") hTy F.slot_enumerate_next
    (wpAny_call_entry F.slot_enumerate_next hTy F.entry_enumerate_next ?_ (F.args_enumerate_next_1 _))))
  show wpAny _ _ (field (.ref e) 2 >>= _) _ _ _
  refine wpAny_bind (wpAny_field he rfl (x := .ref it) rfl ?_)
  refine wpAny_bind (D.done s _ _ hst fun h' x he' hx' => ?_)
  obtain ⟨o, ho, hc⟩ := hx'
  refine wpAny_bind (wpAny_isInstance (T := "StopIteration") (b := true) ⟨o, ho, hc⟩ isSubtype_stop ?_)
  exact wpAny_pure (hQ _ he')
/-- zip of two drawn iterators, the tuple out -/
theorem my_zip_item_held {z TI TO T i1 i2 : Addr} {fp1 fp2 : List Addr} {n1 n2 i : Nat} {P1 P2 : Nat → Value → Prop} {St1 St2 : Nat → Heap → Prop} {f : Bool} {oT : Obj} {Q : Value → Shared → Prop} (S : ZipSep2 z TI TO i1 i2 fp1 fp2)
    (D1 : Draws prog w A i1 fp1 n1 P1 St1) (D2 : Draws prog w A i2 fp2 n2 P2 St2) (hz : IsZipHeld s.heap z TI TO T f) (hT : s.heap.get? T = some oT) (hTI : IsTupOf2 s.heap TI (.ref i1) (.ref i2)) (st1 : St1 i s.heap) (st2 : St2 i s.heap) (hlt1 : i < n1) (hlt2 : i < n2)
    (hQ : ∀ x1 x2 h' tk, P1 i x1 → P2 i x2 → IsZipHeld h' z TI TO T true → St1 (i + 1) h' → St2 (i + 1) h' → IsTupOf2 h' s.heap.objs.size x1 x2 → h'.objs.size = s.heap.objs.size + 1 →
      (∀ c o, c ≠ z → c ≠ i1 → c ≠ i2 → s.heap.get? c = some o → h'.get? c = some o) → Q (.ref s.heap.objs.size) { s with heap := h', toks := tk }) :
    wpAny (model prog w) A (Builtin.«zip.__next__» ⟨[.ref z], []⟩) (fun fin s' => ∃ v, fin = .done (.ret v) ∧ Q v s') E s := by
  obtain ⟨hp, g, d, tk0, os⟩ := s
  show wpAny _ _ (field (.ref z) 2 >>= _) _ _ _
  refine wpAny_bind (wpAny_field hz rfl (x := .bool false) rfl ?_)
  show wpAny _ _ (field (.ref z) 3 >>= _) _ _ _
  refine wpAny_bind (wpAny_field hz rfl (x := .ref TI) rfl ?_)
  refine wpAny_bind (wpAny_seqItems hTI rfl ?_)
  show wpAny _ _ (Builtin.SmallTypes.ownedTupleIsFree (.ref z) >>= _) _ _ _
  refine wpAny_bind (wpAny_tupleHeld_zip hz hT fun h₁ hz₁ hs₁ => ?_)
  replace hs₁ : Heap.SameBut z hp h₁ := hs₁
  simp only [Bool.false_eq_true, if_false]
  refine wpAny_bind ?_
  rw [← Array.forIn_toList]
  simp only [List.forIn_cons, List.forIn_nil]
  refine wpAny_bind (wpAny_bind (wpAny_holding ?_))
  show wpAny _ _ (Builtin.SmallTypes.nextOf (.ref i1) >>= _) _ _ _
  refine wpAny_bind (D1.item i _ _ _ hlt1 (D1.over st1 hs₁ S.zf1) fun x1 h₂ tk1 hx1 sn1 hs₂ => wpAny_pure ?_)
  replace hs₂ : Heap.SameBut i1 h₁ h₂ := hs₂
  refine wpAny_pure ?_
  refine wpAny_bind (wpAny_bind (wpAny_holding ?_))
  show wpAny _ _ (Builtin.SmallTypes.nextOf (.ref i2) >>= _) _ _ _
  refine wpAny_bind (D2.item i _ _ _ hlt2 (D2.over (D2.over st2 hs₁ S.zf2) hs₂ S.sep1_2) fun x2 h₃ tk2 hx2 sn2 hs₃ => wpAny_pure ?_)
  replace hs₃ : Heap.SameBut i2 h₂ h₃ := hs₃
  refine wpAny_pure (wpAny_pure ?_)
  show wpAny _ _ (newTuple [x1, x2] >>= _) _ _ _
  refine wpAny_bind (wpAny_newTuple ?_)
  have hsz : h₃.objs.size = hp.objs.size := by rw [hs₃.1, hs₂.1, hs₁.1]
  have hz₃ : IsZipHeld h₃ z TI TO T true := hs₃.extBut _ _ S.zi2 (hs₂.extBut _ _ S.zi1 hz₁)
  have hk : ∀ c o, c ≠ z → c ≠ i1 → c ≠ i2 → hp.get? c = some o → h₃.get? c = some o := fun c o c1 c2 c3 e => hs₃.extBut _ _ c3 (hs₂.extBut _ _ c2 (hs₁.extBut _ _ c1 e))
  have sn1' : St1 (i + 1) h₃ := D1.over sn1 hs₃ S.sep2_1
  refine wpAny_pure ⟨_, rfl, ?_⟩
  show Q (.ref h₃.objs.size) _
  have hp' : IsTupOf2 (h₃.push { cls := .type "tuple", data := .seq #[x1, x2] }) h₃.objs.size x1 x2 := Heap.get?_push_size _ rfl
  have hz4 : (h₃.push { cls := .type "tuple", data := .seq #[x1, x2] }).objs.size = h₃.objs.size + 1 := Heap.size_push ..
  rw [hsz] at hp' hz4 ⊢
  exact hQ x1 x2 _ tk2 hx1 hx2 (Heap.get?_push_of_some _ hz₃) (D1.frame _ _ _ sn1' fun b hb o e => Heap.get?_push_of_some _ e) (D2.frame _ _ _ sn2 fun b hb o e => Heap.get?_push_of_some _ e) hp' hz4 fun c o c1 c2 c3 e => Heap.get?_push_of_some _ (hk c o c1 c2 c3 e)
theorem my_zip_end_held {z TI TO T i1 i2 : Addr} {fp1 fp2 : List Addr} {n1 n2 i : Nat} {P1 P2 : Nat → Value → Prop} {St1 St2 : Nat → Heap → Prop} {f : Bool} {oT : Obj} {Q : Fin → Shared → Prop} (S : ZipSep2 z TI TO i1 i2 fp1 fp2)
    (D1 : Draws prog w A i1 fp1 n1 P1 St1) (D2 : Draws prog w A i2 fp2 n2 P2 St2) (hz : IsZipHeld s.heap z TI TO T f) (hT : s.heap.get? T = some oT) (hTI : IsTupOf2 s.heap TI (.ref i1) (.ref i2)) (st1 : St1 i s.heap) (st2 : St2 i s.heap) (hle1 : i ≤ n1) (hle2 : i ≤ n2) (hend : i = n1 ∨ i = n2)
    (hE : ∀ h' tk e, (∀ c o, c ≠ z → c ≠ i1 → c ≠ i2 → s.heap.get? c = some o → h'.get? c = some o) → (∃ o, h'.get? e = some o ∧ o.cls = .type "StopIteration") → E (.ref e) { s with heap := h', toks := tk }) :
    wpAny (model prog w) A (Builtin.«zip.__next__» ⟨[.ref z], []⟩) Q E s := by
  obtain ⟨hp, g, d, tk0, os⟩ := s
  show wpAny _ _ (field (.ref z) 2 >>= _) _ _ _
  refine wpAny_bind (wpAny_field hz rfl (x := .bool false) rfl ?_)
  show wpAny _ _ (field (.ref z) 3 >>= _) _ _ _
  refine wpAny_bind (wpAny_field hz rfl (x := .ref TI) rfl ?_)
  refine wpAny_bind (wpAny_seqItems hTI rfl ?_)
  show wpAny _ _ (Builtin.SmallTypes.ownedTupleIsFree (.ref z) >>= _) _ _ _
  refine wpAny_bind (wpAny_tupleHeld_zip hz hT fun h₁ hz₁ hs₁ => ?_)
  replace hs₁ : Heap.SameBut z hp h₁ := hs₁
  simp only [Bool.false_eq_true, if_false]
  refine wpAny_bind ?_
  rw [← Array.forIn_toList]
  simp only [List.forIn_cons, List.forIn_nil]
  refine wpAny_bind (wpAny_bind (wpAny_holding ?_))
  show wpAny _ _ (Builtin.SmallTypes.nextOf (.ref i1) >>= _) _ _ _
  by_cases h1 : i = n1
  · subst h1
    refine wpAny_bind (D1.done _ _ _ (D1.over st1 hs₁ S.zf1) fun h₂ e hs₂ he => ?_)
    exact hE h₂ _ e (fun c o c1 c2 _ x => hs₂ _ _ c2 (hs₁.extBut _ _ c1 x)) he
  have h2 : i = n2 := hend.resolve_left h1
  subst h2
  refine wpAny_bind (D1.item i _ _ _ (by omega) (D1.over st1 hs₁ S.zf1) fun x1 h₂ tk1 hx1 sn1 hs₂ => wpAny_pure ?_)
  replace hs₂ : Heap.SameBut i1 h₁ h₂ := hs₂
  refine wpAny_pure ?_
  refine wpAny_bind (wpAny_bind (wpAny_holding ?_))
  show wpAny _ _ (Builtin.SmallTypes.nextOf (.ref i2) >>= _) _ _ _
  refine wpAny_bind (D2.done _ _ _ (D2.over (D2.over st2 hs₁ S.zf2) hs₂ S.sep1_2) fun h₃ e hs₃ he => ?_)
  exact hE h₃ _ e (fun c o c1 c2 c3 x => hs₃ _ _ c3 (hs₂.extBut _ _ c2 (hs₁.extBut _ _ c1 x))) he
theorem my_pyNext_zip_item_held {z TI TO T i1 i2 : Addr} {fp1 fp2 : List Addr} {n1 n2 i : Nat} {P1 P2 : Nat → Value → Prop} {St1 St2 : Nat → Heap → Prop} {f : Bool} {oT : Obj} {Q : Option Value → Shared → Prop} (S : ZipSep2 z TI TO i1 i2 fp1 fp2)
    (D1 : Draws prog w A.in1 i1 fp1 n1 P1 St1) (D2 : Draws prog w A.in1 i2 fp2 n2 P2 St2) (hz : IsZipHeld s.heap z TI TO T f) (hT : s.heap.get? T = some oT) (hTI : IsTupOf2 s.heap TI (.ref i1) (.ref i2)) (st1 : St1 i s.heap) (st2 : St2 i s.heap) (hlt1 : i < n1) (hlt2 : i < n2)
    (hQ : ∀ x1 x2 h' tk, P1 i x1 → P2 i x2 → IsZipHeld h' z TI TO T true → St1 (i + 1) h' → St2 (i + 1) h' → IsTupOf2 h' s.heap.objs.size x1 x2 → h'.objs.size = s.heap.objs.size + 1 →
      (∀ c o, c ≠ z → c ≠ i1 → c ≠ i2 → s.heap.get? c = some o → h'.get? c = some o) → Q (some (.ref s.heap.objs.size)) { s with heap := h', toks := tk }) :
    wpAny (model prog w) A (pyNext (.ref z)) Q E s := by
  have hTy : s.TypeIs (.ref z) "zip" := ⟨_, hz, rfl⟩
  unfold pyNext
  exact wpAny_bind (wpAny_attempt (wpAny_callSpecial?_slot (name := Str.ofString "__next__") hTy F.slot_zip_next
    (wpAny_call_entry F.slot_zip_next hTy F.entry_zip_next
      (my_zip_item_held S D1 D2 hz hT hTI st1 st2 hlt1 hlt2 fun x1 x2 h' tk a0 a1 a2 a3 a4 a5 a6 a7 => wpAny_pure (hQ x1 x2 h' tk a0 a1 a2 a3 a4 a5 a6 a7)) (F.args_zip_next_1 _))))
theorem my_pyNext_zip_end_held {z TI TO T i1 i2 : Addr} {fp1 fp2 : List Addr} {n1 n2 i : Nat} {P1 P2 : Nat → Value → Prop} {St1 St2 : Nat → Heap → Prop} {f : Bool} {oT : Obj} {Q : Option Value → Shared → Prop} (S : ZipSep2 z TI TO i1 i2 fp1 fp2)
    (D1 : Draws prog w A.in1 i1 fp1 n1 P1 St1) (D2 : Draws prog w A.in1 i2 fp2 n2 P2 St2) (hz : IsZipHeld s.heap z TI TO T f) (hT : s.heap.get? T = some oT) (hTI : IsTupOf2 s.heap TI (.ref i1) (.ref i2)) (st1 : St1 i s.heap) (st2 : St2 i s.heap) (hle1 : i ≤ n1) (hle2 : i ≤ n2) (hend : i = n1 ∨ i = n2)
    (hQ : ∀ h' tk, (∀ c o, c ≠ z → c ≠ i1 → c ≠ i2 → s.heap.get? c = some o → h'.get? c = some o) → Q none { s with heap := h', toks := tk }) : wpAny (model prog w) A (pyNext (.ref z)) Q E s := by
  have hTy : s.TypeIs (.ref z) "zip" := ⟨_, hz, rfl⟩
  unfold pyNext
  refine wpAny_bind (wpAny_attempt (wpAny_callSpecial?_slot (name := Str.ofString "__next__") hTy F.slot_zip_next
    (wpAny_call_entry F.slot_zip_next hTy F.entry_zip_next (my_zip_end_held S D1 D2 hz hT hTI st1 st2 hle1 hle2 hend fun h' tk e hk he => ?_) (F.args_zip_next_1 _))))
  obtain ⟨o, ho, hc⟩ := he
  refine wpAny_bind (wpAny_isInstance (T := "StopIteration") (b := true) ⟨o, ho, hc⟩ isSubtype_stop ?_)
  exact wpAny_pure (hQ _ _ hk)
end
end PySem

/-! KitL3 -/
/-! list(enumerate(text)), list(zip(text, text)) -/
namespace PySem.W
open PySem PySem.Calls PyProof.Rows PyProof.V PySem.Spec
section
variable {prog : Program} {w : World} {A : Around} {E : Value → Shared → Prop} {s : Shared}
theorem iter_enumT {e : Addr} {Q : Value → Shared → Prop} (hT : s.TypeIs (.ref e) "enumerate") (h : Q (.ref e) s) : wpAny (model prog w) A (pyIter (.ref e)) Q E s := by
  refine wpAny_pyIter_slot hT PySem.F.slot_enumerate_iter (wpAny_call_entry PySem.F.slot_enumerate_iter hT PySem.F.entry_enumerate_iter ?_ (PySem.F.args_enumerate_iter_1 _))
  show wpAny _ _ (ret (.ref e)) _ _ s
  exact wpAny_pure ⟨_, rfl, "enumerate", _, hT, PySem.F.slot_enumerate_next.lookup, h⟩
theorem iter_zipT {z : Addr} {Q : Value → Shared → Prop} (hT : s.TypeIs (.ref z) "zip") (h : Q (.ref z) s) : wpAny (model prog w) A (pyIter (.ref z)) Q E s := by
  refine wpAny_pyIter_slot hT PySem.F.slot_zip_iter (wpAny_call_entry PySem.F.slot_zip_iter hT PySem.F.entry_zip_iter ?_ (PySem.F.args_zip_iter_1 _))
  show wpAny _ _ (ret (.ref z)) _ _ s
  exact wpAny_pure ⟨_, rfl, "zip", _, hT, PySem.F.slot_zip_next.lookup, h⟩
end
section
variable {prog : Program} {w : World} {A : Around}
def EnSt (e it : Addr) (St : Nat → Heap → Prop) (S : Addr) : Nat → Heap → Prop := fun i h => St i h ∧ ((∃ old, IsEnum h e it ((i : Nat) : Int) old) ∨ ∃ old T f oT, IsEnumHeld h e it ((i : Nat) : Int) old T f ∧ h.get? T = some oT ∧ T ≠ e ∧ T ≠ it ∧ T ≠ S)
theorem EnSt.type {e it S : Addr} {St : Nat → Heap → Prop} {i : Nat} {s : Shared} (h : EnSt e it St S i s.heap) : s.TypeIs (.ref e) "enumerate" := by
  rcases h.2 with ⟨_, he⟩ | ⟨_, _, _, _, he, _⟩
  · exact ⟨_, he, rfl⟩
  · exact ⟨_, he, rfl⟩
theorem lsrc_enum {e it S : Addr} {fp : List Addr} {n : Nat} {P : Nat → Value → Prop} {St : Nat → Heap → Prop} (D : Draws prog w A.in1 it fp n P St) (hei : e ≠ it) (hef : e ∉ fp) (hfS : ∀ b ∈ fp, b < S) (heS : e < S) (hiS : it < S) :
    LSrc prog w A e S [e, it] n (fun i k v => (∃ t, k = .int ((i : Nat) : Int) t) ∧ P i v) (EnSt e it St S) where
  low := fun b hb => by
    simp only [List.mem_cons, List.not_mem_nil, or_false] at hb
    rcases hb with rfl | rfl
    · exact heS
    · exact hiS
  frame := fun i h h' st hk => by
    obtain ⟨hst, he⟩ := st
    refine ⟨D.frame _ _ _ hst fun b hb o x => hk b o (Nat.ne_of_lt (hfS b hb)) x, ?_⟩
    rcases he with ⟨old, he⟩ | ⟨old, T, f, oT, he, hT, r1, r2, r3⟩
    · exact .inl ⟨old, hk _ _ (Nat.ne_of_lt heS) he⟩
    · exact .inr ⟨old, T, f, oT, hk _ _ (Nat.ne_of_lt heS) he, hk _ _ r3 hT, r1, r2, r3⟩
  item := fun i s Q E hi st hS hQ => by
    obtain ⟨hst, he⟩ := st
    have ec : ((i + 1 : Nat) : Int) = (i : Int) + 1 := by omega
    have nit : s.heap.objs.size ≠ it := by obtain ⟨_, x⟩ := D.live _ _ hst; exact Nat.ne_of_gt (Heap.lt_size x)
    rcases he with ⟨old, he⟩ | ⟨old, T, f, oT, he, hT, r1, r2, r3⟩
    · refine wpAny_pyNext_enum_itemC D he hst hi hei hef fun x h' tk hP ho hst' hT hsz hk => ?_
      exact hQ _ _ h' (tk + 1) ⟨⟨_, rfl⟩, hP⟩ hT ⟨hst', .inr ⟨_, s.heap.objs.size, false, _, (by rw [ec]; exact ho), hT, Nat.ne_of_gt (Heap.lt_size he), nit, Nat.ne_of_gt hS⟩⟩
        fun b o hb x => hk b o (fun y => hb (by simp [y])) (fun y => hb (by simp [y])) x
    · refine my_pyNext_enum_item_held D he hT r1 r2 hst hi hei hef fun x h' tk hP ho hst' hT' hsz hk => ?_
      exact hQ _ _ h' (tk + 1) ⟨⟨_, rfl⟩, hP⟩ hT' ⟨hst', .inr ⟨old, T, true, oT, (by rw [ec]; exact ho), hk _ _ r1 r2 hT, r1, r2, r3⟩⟩
        fun b o hb x => hk b o (fun y => hb (by simp [y])) (fun y => hb (by simp [y])) x
  done := fun s Q E st hQ => by
    obtain ⟨hst, he⟩ := st
    rcases he with ⟨old, he⟩ | ⟨old, T, f, oT, he, hT, r1, r2, r3⟩
    · exact wpAny_pyNext_enum_endD D he hst fun h' hk => hQ h' s.toks fun b o hb x => hk b o (fun y => hb (by simp [y])) x
    · exact my_pyNext_enum_end_held D he hst fun h' hk => hQ h' s.toks fun b o hb x => hk b o (fun y => hb (by simp [y])) x
def ZiSt (z TI TO i1 i2 : Addr) (St1 St2 : Nat → Heap → Prop) (S : Addr) : Nat → Heap → Prop := fun i h => IsTupOf2 h TI (.ref i1) (.ref i2) ∧ St1 i h ∧ St2 i h ∧
  ((IsZip h z TI TO .none ∧ ∃ a b, IsTupOf2 h TO a b) ∨ ∃ T f oT, IsZipHeld h z TI TO T f ∧ h.get? T = some oT ∧ T ≠ z ∧ T ≠ i1 ∧ T ≠ i2 ∧ T ≠ S)
theorem ZiSt.type {z TI TO i1 i2 S : Addr} {St1 St2 : Nat → Heap → Prop} {i : Nat} {s : Shared} (h : ZiSt z TI TO i1 i2 St1 St2 S i s.heap) : s.TypeIs (.ref z) "zip" := by
  rcases h.2.2.2 with ⟨he, _⟩ | ⟨_, _, _, he, _⟩
  · exact ⟨_, he, rfl⟩
  · exact ⟨_, he, rfl⟩
theorem lsrc_zip {z TI TO i1 i2 S : Addr} {fp1 fp2 : List Addr} {n1 n2 : Nat} {P1 P2 : Nat → Value → Prop} {St1 St2 : Nat → Heap → Prop} (D : ZipSep2 z TI TO i1 i2 fp1 fp2) (D1 : Draws prog w A.in1 i1 fp1 n1 P1 St1) (D2 : Draws prog w A.in1 i2 fp2 n2 P2 St2)
    (hf1 : ∀ b ∈ fp1, b < S) (hf2 : ∀ b ∈ fp2, b < S) (hz : z < S) (hTI : TI < S) (hTO : TO < S) :
    LSrc prog w A z S [z, TO, i1, i2] (min n1 n2) (fun i k v => P1 i k ∧ P2 i v) (ZiSt z TI TO i1 i2 St1 St2 S) where
  low := fun b hb => by
    simp only [List.mem_cons, List.not_mem_nil, or_false] at hb
    rcases hb with rfl | rfl | rfl | rfl
    · exact hz
    · exact hTO
    · exact hf1 _ D.mem1
    · exact hf2 _ D.mem2
  frame := fun i h h' st hk => by
    obtain ⟨h0, s1, s2, he⟩ := st
    refine ⟨hk _ _ (Nat.ne_of_lt hTI) h0, D1.frame _ _ _ s1 fun b hb o x => hk b o (Nat.ne_of_lt (hf1 b hb)) x, D2.frame _ _ _ s2 fun b hb o x => hk b o (Nat.ne_of_lt (hf2 b hb)) x, ?_⟩
    rcases he with ⟨he, a, b, ht⟩ | ⟨T, f, oT, he, hT, r1, r2, r3, r4⟩
    · exact .inl ⟨hk _ _ (Nat.ne_of_lt hz) he, a, b, hk _ _ (Nat.ne_of_lt hTO) ht⟩
    · exact .inr ⟨T, f, oT, hk _ _ (Nat.ne_of_lt hz) he, hk _ _ r4 hT, r1, r2, r3, r4⟩
  item := fun i s Q E hi st hS hQ => by
    obtain ⟨h0, s1, s2, he⟩ := st
    have lt : ∀ {c o}, s.heap.get? c = some o → s.heap.objs.size ≠ c := fun e => Nat.ne_of_gt (Heap.lt_size e)
    have l1 : s.heap.objs.size ≠ i1 := by obtain ⟨_, e⟩ := D1.live _ _ s1; exact lt e
    have l2 : s.heap.objs.size ≠ i2 := by obtain ⟨_, e⟩ := D2.live _ _ s2; exact lt e
    have hi1 : i < n1 := by omega
    have hi2 : i < n2 := by omega
    rcases he with ⟨he, a, b, ht⟩ | ⟨T, f, oT, he, hT, r1, r2, r3, r4⟩
    · refine wpAny_pyNext_zipD2_item D D1 D2 he h0 ht s1 s2 hi1 hi2 fun x1 x2 h' tk y1 y2 b1 b2 d1 d2 b5 b6 hk => ?_
      exact hQ x1 x2 h' tk ⟨y1, y2⟩ b5 ⟨hk _ _ D.TIz D.TITO D.TIi1 D.TIi2 h0, d1, d2, .inr ⟨s.heap.objs.size, false, _, b1, b5, lt he, l1, l2, Nat.ne_of_gt hS⟩⟩
        fun b o hb x => hk b o (fun y => hb (by simp [y])) (fun y => hb (by simp [y])) (fun y => hb (by simp [y])) (fun y => hb (by simp [y])) x
    · refine my_pyNext_zip_item_held D D1 D2 he hT h0 s1 s2 hi1 hi2 fun x1 x2 h' tk y1 y2 b1 d1 d2 b5 b6 hk => ?_
      exact hQ x1 x2 h' tk ⟨y1, y2⟩ b5 ⟨hk _ _ D.TIz D.TIi1 D.TIi2 h0, d1, d2, .inr ⟨T, true, oT, b1, hk _ _ r1 r2 r3 hT, r1, r2, r3, r4⟩⟩
        fun b o hb x => hk b o (fun y => hb (by simp [y])) (fun y => hb (by simp [y])) (fun y => hb (by simp [y])) x
  done := fun s Q E st hQ => by
    obtain ⟨h0, s1, s2, he⟩ := st
    rcases he with ⟨he, a, b, ht⟩ | ⟨T, f, oT, he, hT, r1, r2, r3, r4⟩
    · exact wpAny_pyNext_zipD2_end D D1 D2 he h0 ht s1 s2 (by omega) (by omega) (by omega) fun h' tk hk => hQ h' tk fun b o hb x => hk b o (fun y => hb (by simp [y])) (fun y => hb (by simp [y])) (fun y => hb (by simp [y])) (fun y => hb (by simp [y])) x
    · exact my_pyNext_zip_end_held D D1 D2 he hT h0 s1 s2 (by omega) (by omega) (by omega) fun h' tk hk => hQ h' tk fun b o hb x => hk b o (fun y => hb (by simp [y])) (fun y => hb (by simp [y])) (fun y => hb (by simp [y])) x
end
end PySem.W
namespace My
open PySem PySem.Spec PyProof.Rows L2
/-- a list of new pairs -/
def NewPairs (H : Hp) (n : Nat) (f : Nat → V × V) (C : Addr → Hp → Prop) : Prop := ∀ (H' : Hp) (p : Addr) (ts : List Addr), Same H H' → H p = none → (∀ t ∈ ts, H t = none) → p ∉ ts → ts.Nodup → ts.length = n → H' p = some (.lst (ts.map V.ref)) →
  (∀ i t, ts[i]? = some t → H' t = some (.tup [(f i).1, (f i).2])) → C p H'
section
variable {X : Cx} {pins : List (Addr × Obj)} {σ : L2.St} {H : Hp} {s : Shared} {h' : Heap} {tk : Nat}
theorem idx_nd : ∀ {as : List Addr} {i : Nat} {t : Addr}, as.Nodup → as[i]? = some t → as.idxOf t = i
  | a :: as, 0, t, _, h => by
    have : a = t := Option.some.inj h
    rw [this]; simp
  | a :: as, i + 1, t, nd, h => by
    have nd' := List.nodup_cons.mp nd
    have h' : as[i]? = some t := h
    have ne : a ≠ t := fun z => nd'.1 (z ▸ List.mem_of_getElem? h')
    have e := idx_nd nd'.2 h'
    rw [List.idxOf_cons, e]
    have : (a == t) = false := by simp [ne]
    rw [this]; rfl
theorem pairs_laid {Rel : Nat → Value → Value → Prop} {n c : Nat} {acc : Array Value} {as : List Addr} {S : Addr} {f : Nat → V × V} (I : Inv X pins σ H s) (hz : n ≤ sizeLine) (hrel : ∀ j k v, j < n → Rel j k v → RelV (f j).1 k ∧ RelV (f j).2 v)
    (hk : ∀ b o, s.heap.get? b = some o → h'.get? b = some o) (hlo : s.heap.objs.size ≤ S) (hS : h'.get? S = some { cls := .type "list", dict := none, data := .seq acc c, slots := #[] }) (hl : as.length = n) (hG : PySem.W.PlG Rel S h' as) (hacc : acc.toList = as.map Value.ref) :
    ∃ H' : Hp, Same H H' ∧ H S = none ∧ (∀ t ∈ as, H t = none) ∧ S ∉ as ∧ as.Nodup ∧ H' S = some (.lst (as.map V.ref)) ∧ (∀ i t, as[i]? = some t → H' t = some (.tup [(f i).1, (f i).2])) ∧ Inv X pins σ H' { s with heap := h', toks := tk } := by
  have hSn : S ∉ as := fun z => Nat.lt_irrefl _ (hG.above _ z)
  have nd : as.Nodup := List.Pairwise.imp (fun {a b} (h : a < b) => Nat.ne_of_lt h) hG.rise
  have new : ∀ t ∈ as, H t = none := fun t ht => I.hok.fresh (Nat.le_trans hlo (Nat.le_of_lt (hG.above t ht)))
  have newS : H S = none := I.hok.fresh hlo
  let H' : Hp := fun b => if b = S then some (.lst (as.map V.ref)) else if b ∈ as then some (.tup [(f (as.idxOf b)).1, (f (as.idxOf b)).2]) else H b
  have off : ∀ b, b ∉ as → b ≠ S → H' b = H b := fun b h1 h2 => by show (if b = S then _ else _) = _; rw [if_neg h2, if_neg h1]
  have low : ∀ b o, s.heap.get? b = some o → b ∉ as ∧ b ≠ S := fun b o e => ⟨fun z => absurd (Heap.lt_size e) (Nat.not_lt.mpr (Nat.le_trans hlo (Nat.le_of_lt (hG.above b z)))), fun z => absurd (Heap.lt_size e) (Nat.not_lt.mpr (z ▸ hlo))⟩
  have kp : ∀ b u, H b = some u → H' b = some u := fun b u e => by
    rw [off b (fun z => by rw [new b z] at e; cases e) (fun z => by rw [z, newS] at e; cases e)]
    exact e
  have eS : H' S = some (.lst (as.map V.ref)) := if_pos rfl
  have eT : ∀ i t, as[i]? = some t → H' t = some (.tup [(f i).1, (f i).2]) := fun i t e => by
    have m := List.mem_of_getElem? e
    show (if t = S then _ else _) = _
    rw [if_neg (fun z => hSn (by rw [← z]; exact m)), if_pos m, idx_nd nd e]
  refine ⟨H', kp, newS, new, hSn, nd, eS, eT, ?_⟩
  refine I.call' (ch := []) rfl ⟨fun b o q _ _ _ => hk b o q, fun b o q _ _ _ => ⟨o.slots, hk b o q⟩, fun b o q n _ => ?_, fun b o q _ => ⟨o, hk b o q⟩, fun b xs q => kp b _ q, fun b o u q => kp b _ q, fun b ps q => ⟨#[], by rw [kp b _ q]; simp⟩⟩ (fun b u q => ?_) I.bare fun b z => by simp at z
  · obtain ⟨z1, z2⟩ := low b o q
    rw [off b z1 z2]
    exact n
  · by_cases hb : b ∈ as
    · obtain ⟨j, e1⟩ := List.mem_iff_getElem?.mp hb
      have e3 := eT j b e1
      rw [e3] at q
      cases q
      obtain ⟨key, x, f1, f2⟩ := hG.pairs j b e1
      obtain ⟨g1, g2⟩ := hrel j key x (by have := (List.getElem?_eq_some_iff.mp e1).1; omega) f1
      exact ⟨by show 2 ≤ sizeLine; decide, [key, x], .cons g1 (.cons g2 .nil), ⟨_, f2, rfl, _, rfl⟩⟩
    · by_cases hb2 : b = S
      · rw [hb2] at q ⊢
        rw [eS] at q
        cases q
        refine ⟨by rw [List.length_map]; omega, acc.toList, c, by rw [hacc]; exact LiI.vals_refs as, ?_⟩
        rw [Array.toArray_toList]
        exact hS
      · rw [off b hb hb2] at q
        exact (I.hok b u q).stay (fun d v _ y => hk d v y) (fun d y => kp d _ y) fun d xs y => kp d _ y
end
def sgn (z : Str) (i : Nat) : V := .str ⟨#[z.cps.getD i 0]⟩
/-- list(enumerate(text)) -/
def tListEnS (te : TE) : TE := fun σ H Q => te σ H fun x H1 => ∃ z : Str, x = .str z ∧ z.length ≤ sizeLine ∧ NewPairs H1 z.length (fun i => (.int (i : Nat), sgn z i)) fun p H' => Q (.ref p) H'
/-- list(zip(text, text)) -/
def tListZiS (ta tb : TE) : TE := fun σ H Q => ta σ H fun x H1 => tb σ H1 fun y H2 => ∃ z z' : Str, x = .str z ∧ y = .str z' ∧ z.length ≤ sizeLine ∧ NewPairs H2 (min z.length z'.length) (fun i => (sgn z i, sgn z' i)) fun p H' => Q (.ref p) H'
section
variable {X : Cx} {e : Expr} {te : TE} {p p2 pos pos2 : Pos}
theorem pe_listEnS (hc : X.calm = true) (he : PE X e te) (hgl : Gl X "list") (hml : X.mg "list" = none) (hge : Gl X "enumerate") (hme : X.mg "enumerate" = none)
    (hs : starEach [.Call (.Name "enumerate" p2) [e] [] pos2] X.env = (false, eval (.Call (.Name "enumerate" p2) [e] [] pos2) X.env) :: starEach [] X.env := by rfl)
    (na : starEach [e] X.env = (false, eval e X.env) :: starEach [] X.env := by rfl) :
    PE X (.Call (.Name "list" p) [.Call (.Name "enumerate" p2) [e] [] pos2] [] pos) (tListEnS te) := by
  refine ⟨fun pins s σ H Q I hq => ?_⟩
  refine wpAny_Call_Name_kw (ld_blt I hgl hml boot_list ?_)
  refine PyProof.Rows.callWith_type1 ?_ hs rfl
  rw [hs]
  show wpAny _ _ (spliced ((false, eval (.Call (.Name "enumerate" p2) [e] [] pos2) X.env) :: backTo pos (starEach [] X.env))) _ _ s
  refine Calls.spliced_cons ?_
  refine Call_ (ld_blt I hge hme boot_enumerate (PyProof.Rows.callWith_type1 (one_arg he I hq (fun v s2 x H2 I2 r q => ?_) na) na))
  obtain ⟨z, rfl, hz, q⟩ := q
  obtain ⟨t, rfl⟩ := r
  refine call_enumerate_str fun h0 hen hit hsz hk0 => ?_
  refine Calls.spliced_nil ?_
  have I3 : Inv X pins σ H2 { s2 with heap := h0 } := I2.kept (t' := s2.toks) hk0
  have D : Draws X.prog X.w X.A.in1.in1.in1 s2.heap.objs.size [s2.heap.objs.size] z.cps.size (fun i v => ∃ c u, z.cps[i]? = some c ∧ v = .str ⟨#[c]⟩ u) (fun i h => h.IsStrIter s2.heap.objs.size (strIterType z) z t i) := Draws.text (show X.A.in1.in1.in1.handled = none from I2.ok.hd hc) _ z t
  have big : s2.heap.objs.size + 1 < h0.objs.size := by rw [hsz]; exact Nat.lt_succ_self _
  refine PySem.W.pl_call (St := PySem.W.EnSt (s2.heap.objs.size + 1) s2.heap.objs.size (fun i h => h.IsStrIter s2.heap.objs.size (strIterType z) z t i)) (s := { s2 with heap := h0 }) PySem.W.enumerate_no_len PySem.W.enumerate_no_hint (by decide) (by decide)
    (fun S hS => PySem.W.lsrc_enum (A := X.A.in1.in1) D (Nat.succ_ne_self _) (by simp) (fun b hb => ?_) (Nat.lt_of_lt_of_le big hS) (Nat.lt_of_lt_of_le (Nat.lt_of_succ_lt big) hS)) (fun S s' h => PySem.W.EnSt.type h) big (fun S s' E' Q' h q' => PySem.W.iter_enumT (PySem.W.EnSt.type h) q') (fun S h' hS hk' => ?_) hz (fun h' tk acc c as hk hS hl hG hacc => ?_)
  · rw [List.mem_singleton.mp hb]
    exact Nat.lt_of_lt_of_le (Nat.lt_of_succ_lt big) hS
  · exact ⟨let ⟨o, ho, r⟩ := hit; ⟨o, hk' _ _ ho, r⟩, .inl ⟨_, hk' _ _ hen⟩⟩
  · have hkk : ∀ b o, s2.heap.get? b = some o → h'.get? b = some o := fun b o e => by
      refine hk b o (fun m => ?_) (hk0 b o e)
      have lb := Heap.lt_size e
      simp only [List.mem_cons, List.not_mem_nil, or_false] at m
      rcases m with m | m
      · exact absurd lb (by rw [m]; exact Nat.not_lt.mpr (Nat.le_succ _))
      · exact absurd lb (by rw [m]; exact Nat.lt_irrefl _)
    have hrel : ∀ j k v, j < z.length → ((∃ t, k = .int ((j : Nat) : Int) t) ∧ ∃ c u, z.cps[j]? = some c ∧ v = Value.str ⟨#[c]⟩ u) → RelV (.int ((j : Nat) : Int)) k ∧ RelV (sgn z j) v := fun j k v _ hr => by
      obtain ⟨⟨u, rfl⟩, cc, u2, e1, rfl⟩ := hr
      refine ⟨⟨_, rfl⟩, u2, ?_⟩
      show Value.str ⟨#[cc]⟩ u2 = Value.str ⟨#[z.cps.getD j 0]⟩ u2
      rw [Array.getD_eq_getD_getElem?, e1]; rfl
    obtain ⟨H', k1, k2, k3, k4, k5, k6, k7, J⟩ := pairs_laid (s := s2) (h' := h') (tk := tk) (n := z.length) (f := fun i => (.int (i : Nat), sgn z i)) I2 hz hrel hkk (by show s2.heap.objs.size ≤ h0.objs.size; rw [hsz]; exact Nat.le_add_right _ _) hS hl hG hacc
    exact ⟨.ref _, H', J, rfl, q H' _ as k1 k2 k3 k4 k5 hl k6 k7⟩
theorem pe_listZiS {b : Expr} {tb : TE} (hc : X.calm = true) (he : PE X e te) (hb : PE X b tb) (hgl : Gl X "list") (hml : X.mg "list" = none) (hge : Gl X "zip") (hme : X.mg "zip" = none)
    (hs : starEach [.Call (.Name "zip" p2) [e, b] [] pos2] X.env = (false, eval (.Call (.Name "zip" p2) [e, b] [] pos2) X.env) :: starEach [] X.env := by rfl)
    (na : starEach [e, b] X.env = (false, eval e X.env) :: starEach [b] X.env := by rfl) (nb : starEach [b] X.env = (false, eval b X.env) :: starEach [] X.env := by rfl) (hp : (backTo pos2 (starEach [b] X.env)).any (·.1) = false := by rfl) :
    PE X (.Call (.Name "list" p) [.Call (.Name "zip" p2) [e, b] [] pos2] [] pos) (tListZiS te tb) := by
  refine ⟨fun pins s σ H Q I hq => ?_⟩
  refine wpAny_Call_Name_kw (ld_blt I hgl hml boot_list ?_)
  refine PyProof.Rows.callWith_type1 ?_ hs rfl
  rw [hs]
  show wpAny _ _ (spliced ((false, eval (.Call (.Name "zip" p2) [e, b] [] pos2) X.env) :: backTo pos (starEach [] X.env))) _ _ s
  refine Calls.spliced_cons ?_
  refine Call_ (ld_blt I hge hme (show bootBuiltins ("zip" : Str) = some (.type "zip") by decide +kernel) (PyProof.Rows.callWith_type1 (args_cons (thn (he.run pins s σ H _ I hq) fun v s1 ⟨x, H1, I1, r1, q1⟩ => one_arg hb I1 q1 (fun u s2 y H2 I2 r2 q => ?_) nb) na) na hp))
  obtain ⟨z, z', rfl, rfl, hz, q⟩ := q
  obtain ⟨t, rfl⟩ := r1
  obtain ⟨t', rfl⟩ := r2
  refine zip_begins2 (begins_text z t) (begins_text z' t') trivial trivial fun h0 hzip hTI hTO ho1 ho2 hsz hk0 => ?_
  refine Calls.spliced_nil ?_
  have hh : X.A.in1.in1.in1.handled = none := I2.ok.hd hc
  have D1 := Draws.text (prog := X.prog) (w := X.w) hh s2.heap.objs.size z t
  have D2 := Draws.text (prog := X.prog) (w := X.w) hh (s2.heap.objs.size + 1) z' t'
  have Sp : ZipSep2 (s2.heap.objs.size + 4) (s2.heap.objs.size + 2) (s2.heap.objs.size + 3) s2.heap.objs.size (s2.heap.objs.size + 1) [s2.heap.objs.size] [s2.heap.objs.size + 1] := zip_sep2 (by simp) (by simp)
  have it1 : h0.IsStrIter s2.heap.objs.size (strIterType z) z t 0 := ⟨_, ho1, rfl, rfl⟩
  have it2 : h0.IsStrIter (s2.heap.objs.size + 1) (strIterType z') z' t' 0 := ⟨_, ho2, rfl, rfl⟩
  have bigE : h0.objs.size = s2.heap.objs.size + 5 := hsz
  have ltn : ∀ k, k < 5 → s2.heap.objs.size + k < h0.objs.size := fun k hk => by rw [bigE]; exact Nat.add_lt_add_left hk _
  have lt0 : s2.heap.objs.size < h0.objs.size := ltn 0 (by decide)
  refine PySem.W.pl_call (St := PySem.W.ZiSt (s2.heap.objs.size + 4) (s2.heap.objs.size + 2) (s2.heap.objs.size + 3) s2.heap.objs.size (s2.heap.objs.size + 1) (fun i h => h.IsStrIter s2.heap.objs.size (strIterType z) z t i) (fun i h => h.IsStrIter (s2.heap.objs.size + 1) (strIterType z') z' t' i)) (s := { s2 with heap := h0 }) PySem.W.zip_no_len PySem.W.zip_no_hint (by decide) (by decide)
    (fun S hS => PySem.W.lsrc_zip (A := X.A.in1.in1) Sp D1 D2 (fun b hb => ?_) (fun b hb => ?_) (Nat.lt_of_lt_of_le (ltn 4 (by decide)) hS) (Nat.lt_of_lt_of_le (ltn 2 (by decide)) hS) (Nat.lt_of_lt_of_le (ltn 3 (by decide)) hS)) (fun S s' h => PySem.W.ZiSt.type h) (ltn 4 (by decide)) (fun S s' E' Q' h q' => PySem.W.iter_zipT (PySem.W.ZiSt.type h) q') (fun S h' hS hk' => ?_) (Nat.le_trans (Nat.min_le_left ..) hz) (fun h' tk acc c as hk hS hl hG hacc => ?_)
  · rw [List.mem_singleton.mp hb]
    exact Nat.lt_of_lt_of_le lt0 hS
  · rw [List.mem_singleton.mp hb]
    exact Nat.lt_of_lt_of_le (ltn 1 (by decide)) hS
  · exact ⟨hk' _ _ hTI, (let ⟨o, ho, r⟩ := it1; ⟨o, hk' _ _ ho, r⟩), (let ⟨o, ho, r⟩ := it2; ⟨o, hk' _ _ ho, r⟩), .inl ⟨hk' _ _ hzip, _, _, hk' _ _ hTO⟩⟩
  · have hkk : ∀ b o, s2.heap.get? b = some o → h'.get? b = some o := fun b o e => by
      refine hk b o (fun m => ?_) (hk0 b o e)
      have lb := Heap.lt_size e
      simp only [List.mem_cons, List.not_mem_nil, or_false] at m
      rcases m with m | m | m | m
      · exact absurd lb (by rw [m]; exact Nat.not_lt.mpr (Nat.le_add_right _ _))
      · exact absurd lb (by rw [m]; exact Nat.not_lt.mpr (Nat.le_add_right _ _))
      · exact absurd lb (by rw [m]; exact Nat.lt_irrefl _)
      · exact absurd lb (by rw [m]; exact Nat.not_lt.mpr (Nat.le_succ _))
    have hrel : ∀ j k v, j < min z.length z'.length → ((∃ c u, z.cps[j]? = some c ∧ k = Value.str ⟨#[c]⟩ u) ∧ ∃ c u, z'.cps[j]? = some c ∧ v = Value.str ⟨#[c]⟩ u) → RelV (sgn z j) k ∧ RelV (sgn z' j) v := fun j k v _ hr => by
      obtain ⟨⟨c1, u1, e1, rfl⟩, c2, u2, e2, rfl⟩ := hr
      refine ⟨⟨u1, ?_⟩, u2, ?_⟩
      · show Value.str ⟨#[c1]⟩ u1 = Value.str ⟨#[z.cps.getD j 0]⟩ u1
        rw [Array.getD_eq_getD_getElem?, e1]; rfl
      · show Value.str ⟨#[c2]⟩ u2 = Value.str ⟨#[z'.cps.getD j 0]⟩ u2
        rw [Array.getD_eq_getD_getElem?, e2]; rfl
    obtain ⟨H', k1, k2, k3, k4, k5, k6, k7, J⟩ := pairs_laid (s := s2) (h' := h') (tk := tk) (n := min z.length z'.length) (f := fun i => (sgn z i, sgn z' i)) I2 (Nat.le_trans (Nat.min_le_left ..) hz) hrel hkk (Nat.le_of_lt lt0) hS hl hG hacc
    exact ⟨.ref _, H', J, rfl, q H' _ as k1 k2 k3 k4 k5 hl k6 k7⟩
end
end My

/-! KitL4 -/
/-! text[::-1], list.extend(tuple), for over zip of rows and texts in any mix, tuple(d.values()) -/
namespace PySem
open Sem (wp)
open AutoSeq1
theorem my_extend_tup (l : Addr) (items : Array Value) (n : Nat) (b : Addr) (items2 : Array Value) (n2 : Nat) (dct : Option Addr) (sl : Array (Option Value)) (hs0 : ¬(!items.isEmpty && Builtin.List.listTooLong (items.size + items2.size)) = true) (hs1 : items.size ≤ sizeLine) (hs2 : items.size + items2.size ≤ sizeLine + 1 := by seq_fits) :
    Meets (Builtin.«list.extend» ⟨[.ref l, .ref b], []⟩) (fun _ R s => s.heap.get? l = some { cls := .type "list", dict := none, data := .seq items n, slots := #[] } ∧ s.heap.get? b = some { cls := .type "tuple", dict := dct, data := .seq items2 n2, slots := sl } ∧ R (.ok (.ret Value.none)) { s with heap := s.heap.update l (Obj.mapSeq fun x => x ++ items2), toks := s.toks }) :=
  .of_wp fun prog w A R s h => by
    obtain ⟨hp, g, d, tk, os⟩ := s; obtain ⟨hl, hb, h⟩ := h; have f1 := idx_int; have f2 := sub_tuple_tuple; have f3 := sub_list_list; have f4 := sub_tuple_list; have f5 := sub_list_tuple;
    have hz' : (items ++ items2).size ≤ sizeLine + 1 := by rw [Array.size_append]; exact hs2
    wp_walk using (wpAny_updateSeq hl rfl (hz := hs1) (_hz' := hz')), wpAny_loadPart' hl, wpAny_loadPart' hb; exact ⟨_, rfl, h⟩
end PySem
namespace My
open PySem PySem.Spec PyProof.Rows L2
def revS (z : Str) : Str := ⟨z.cps.toList.reverse.toArray⟩
theorem revS_len (z : Str) : (revS z).length = z.length := by
  show (z.cps.toList.reverse.toArray).size = z.cps.size
  rw [List.size_toArray, List.length_reverse, Array.length_toList]
theorem picked_rev (z : Str) : ((Builtin.Str.strSliceIndices none none (-1) z.length).filterMap (z.cps[·]?)).toArray = z.cps.toList.reverse.toArray := by
  have e : Builtin.Str.strSliceIndices none none (-1) z.length = (List.range z.length).reverse := by
    show sliceRange (if (-1 : Int) > 0 then 0 else (z.length : Int) - 1) (if (-1 : Int) > 0 then (z.length : Int) else -1) (-1) = _
    rw [if_neg (by decide), if_neg (by decide), PySem.W.krv_sliceRange, PySem.W.krv_range]
  rw [e, List.filterMap_reverse]
  have := PySem.W.krv_all z.cps
  rw [show (List.range z.length).filterMap (z.cps[·]?) = z.cps.toList from this]
def tRevS (te : TE) : TE := fun σ H Q => te σ H fun x H1 => ∃ z, x = .str z ∧ z.length ≤ sizeLine ∧ Q (.str (revS z)) H1
section
variable {X : Cx}
theorem pe_revS {e : Expr} {te : TE} {k : Nat} {p1 p2 p3 pos : Pos} (he : PE X e te) : PE X (.Subscript e (.Slice none none (some (.UnaryOp .USub (.Constant (.int 1) k p1) p2)) p3) pos) (tRevS te) := by
  refine ⟨fun pins s σ H Q I h => ?_⟩
  refine Subscript_ (thn (he.run pins s σ H _ I h) fun v s1 ⟨x, H1, I1, r1, q1⟩ => ?_)
  obtain ⟨z, ex, hz, q⟩ := q1
  subst ex
  obtain ⟨t, rfl⟩ := r1
  have hst : PO X (some (.UnaryOp .USub (.Constant (.int 1) k p1) p2)) (tPart (tUn (rU fun i => .int (-i)) (tC (.int 1)))) := po_some (pe_un un_neg pe_int)
  refine wpAny_Slice (thn (po_none.run pins s1 σ H1 (fun o H2 => o = none ∧ H2 = H1) I1 ⟨rfl, rfl⟩) fun vl s2 ⟨l, H2, I2, pl, el, e2⟩ => ?_)
  subst el e2
  refine thn (po_none.run pins s2 σ H2 (fun o H3 => o = none ∧ H3 = H2) I2 ⟨rfl, rfl⟩) fun vu s3 ⟨u, H3, I3, pu, eu, e3⟩ => ?_
  subst eu e3
  refine thn (hst.run pins s3 σ H3 (fun o H4 => o = some (-1) ∧ H4 = H3) I3 ⟨1, rfl, -1, rfl, rfl, rfl⟩) fun vs s4 ⟨o, H4, I4, ps, eo, e4⟩ => ?_
  subst eo e4
  have I5 : Inv X pins σ H4 { s4 with heap := s4.heap.push { cls := .type "slice", data := .fields #[vl, vu, vs] } } := I4.kept (t' := s4.toks) fun b ob q => Heap.get?_push_of_some _ q
  obtain ⟨l', rfl, el⟩ := IsPart.raw pl
  obtain ⟨u', rfl, eu⟩ := IsPart.raw pu
  obtain ⟨st', rfl, es⟩ := IsPart.raw ps
  show wpAny (model X.prog X.w) X.A (subscriptTail e (.Slice none none (some (.UnaryOp .USub (.Constant (.int 1) k p1) p2)) p3) (.str z t) (.ref s4.heap.objs.size)) (EP X pins σ Q) X.xe { s4 with heap := s4.heap.push { cls := .type "slice", data := .fields #[partValue l', partValue u', partValue st'] } }
  refine tail_any (ops := [.str z t, .ref s4.heap.objs.size]) (T := "str") (typeIs_str _ _ _) F.slot_str_getitem.lookup ?_ (by with_unfolding_all rfl)
  refine wpAny_getItem_str_slice (l := l') (u := u') (st := st') ⟨_, Heap.get?_push_size _ rfl, rfl, rfl⟩ (by rw [es]; rfl) ?_
  unfold sliceMade slicePicked
  rw [el, eu, es]
  have hne : ¬ (((some (-1 : Int)).getD 1 == 1 && (Builtin.Str.strSliceIndices none none ((some (-1 : Int)).getD 1) z.length).length == z.length) = true) := by
    show ¬ (((-1 : Int) == 1 && _) = true)
    rw [show ((-1 : Int) == 1) = false by decide, Bool.false_and]
    exact Bool.false_ne_true
  rw [if_neg hne]
  show (Made.str ⟨((Builtin.Str.strSliceIndices none none (-1) z.length).filterMap (z.cps[·]?)).toArray⟩).post (EP X pins σ Q) _
  rw [picked_rev]
  exact ⟨by rw [show (⟨z.cps.toList.reverse.toArray⟩ : Str) = revS z from rfl, revS_len]; exact hz, .str _, H4, I5.tok _, ⟨_, rfl⟩, q⟩
/-- xs.extend(t), t a tuple -/
def rExtendT (K : PySem.W.Frag) : V → List V → Hp → VK → Prop := fun x vs H Q => ∃ l b xs zs, x = .ref l ∧ vs = [.ref b] ∧ H l = some (.lst xs) ∧ H b = some (.tup zs) ∧ xs.length + zs.length ≤ sizeLine ∧ Q .non (upd H l (.lst (xs ++ zs)))
theorem mt_extendT : MtM X "list.extend" (rExtendT X.K) := by
  intro pins s σ H x vs v us Q I rx rv h
  obtain ⟨l, b, xs, zs, rfl, rfl, hH, hB, hz, q⟩ := h
  cases rx
  obtain ⟨u, rfl, ru⟩ := rv.one
  cases ru
  obtain ⟨z, its, n, r, hl, e⟩ := I.lstM hH
  obtain ⟨its2, r2, pl2, hz2⟩ := I.tuple (SqT.of (K := X.K) hB)
  have hl2 := r2.length
  obtain ⟨⟨c2, d2, dt2, sl2⟩, e2, hc2, n2, hdd2⟩ := pl2
  dsimp only at hc2 hdd2
  subst hc2 hdd2
  have hsz : its.toArray.size + its2.toArray.size ≤ sizeLine := by rw [List.size_toArray, List.size_toArray]; omega
  have hlong : ¬ (!its.toArray.isEmpty && Builtin.List.listTooLong (its.toArray.size + its2.toArray.size)) = true := by
    rw [notLongL hsz, Bool.and_false]
    exact Bool.false_ne_true
  refine call_meets F.slot_list_extend ⟨_, e, rfl⟩ F.entry_list_extend (F.args_list_extend_2 _ _)
    (my_extend_tup l its.toArray n b its2.toArray n2 d2 sl2 hlong (by rw [List.size_toArray]; omega) (by omega)) ⟨e, e2, ?_⟩
  refine ⟨.non, _, I.lset (its' := its ++ its2) hH e (by simp) (r.append r2) ?_, rfl, q⟩
  rw [List.length_append]
  omega
end
end My

/-! KitL5 -/
/-! for over zip(x, y), each a row or a text -/
namespace My
open PySem PySem.Spec PyProof.Rows L2
/-- the signs of a text -/
def sigs (z : Str) : List V := z.cps.toList.map fun c => V.str ⟨#[c]⟩
theorem sigs_len (z : Str) : (sigs z).length = z.cps.size := by unfold sigs; rw [List.length_map, Array.length_toList]
theorem sigs_at (z : Str) (i : Nat) : (sigs z)[i]? = z.cps[i]?.map fun c => V.str ⟨#[c]⟩ := by unfold sigs; rw [List.getElem?_map, Array.getElem?_toList]
inductive Kd where
  | lst (a : Addr) | tup (a : Addr) | txt (z : Str) (t : Tok)
def Kd.off (N : Nat) : Kd → Prop | .lst a => a < N | .tup a => a < N | .txt _ _ => True
def Kd.it (h : Heap) (j : Addr) (i : Nat) : Kd → Prop | .lst a => h.IsListIter j a i | .tup a => h.IsTupleIter j a i | .txt z t => h.IsStrIter j (strIterType z) z t i
def Kd.fp (j : Addr) : Kd → List Addr | .lst a => [j, a] | .tup a => [j, a] | .txt _ _ => [j]
def Kd.own : Kd → List Addr | .lst a => [a] | .tup a => [a] | .txt _ _ => []
def Kd.src (H : Hp) (xs : List V) : Kd → Prop | .lst a => H a = some (.lst xs) | .tup a => H a = some (.tup xs) | .txt z _ => xs = sigs z
theorem Kd.fp_own (j : Addr) (k : Kd) : k.fp j = j :: k.own := by cases k <;> rfl
theorem Kd.it_keep {h h' : Heap} {j : Addr} {i : Nat} {k : Kd} (x : k.it h j i) (e : ∀ o, h.get? j = some o → h'.get? j = some o) : k.it h' j i := by
  cases k with
  | lst a => obtain ⟨o, ho, r⟩ := x; exact ⟨o, e o ho, r⟩
  | tup a => obtain ⟨o, ho, r⟩ := x; exact ⟨o, e o ho, r⟩
  | txt z t => obtain ⟨o, ho, r⟩ := x; exact ⟨o, e o ho, r⟩
theorem Kd.it_obj {h : Heap} {j : Addr} {i : Nat} {k : Kd} (x : k.it h j i) : ∃ o, h.get? j = some o ∧ ∀ v, o.data ≠ .cell v := by
  cases k with
  | lst a => obtain ⟨o, ho, _, d⟩ := x; exact ⟨o, ho, fun v q => by rw [d] at q; cases q⟩
  | tup a => obtain ⟨o, ho, _, d⟩ := x; exact ⟨o, ho, fun v q => by rw [d] at q; cases q⟩
  | txt z t => obtain ⟨o, ho, _, d⟩ := x; exact ⟨o, ho, fun v q => by rw [d] at q; cases q⟩
/-- what such an iterator draws -/
theorem Kd.draws {X : Cx} {pins : List (Addr × Obj)} {σ : L2.St} {H : Hp} {s : Shared} {A : Around} (I : Inv X pins σ H s) (hh : A.handled = none) {k : Kd} {xs : List V} (hs : k.src H xs) {j : Addr} {i : Nat} (hi : k.it s.heap j i) (hj : ∀ a ∈ k.own, a ≠ j) :
    ∃ (P : Nat → Value → Prop) (St : Nat → Heap → Prop), Draws X.prog X.w A j (k.fp j) xs.length P St ∧ St i s.heap ∧ (∀ m h, St m h → k.it h j m) ∧ ∀ m v, P m v → ∃ x, xs[m]? = some x ∧ RelV x v := by
  cases k with
  | lst a =>
    obtain ⟨its, rv, p, hz⟩ := I.list (SqL.of (K := X.K) (show H a = some (.lst xs) from hs))
    have hl := rv.length
    have D := Draws.list (prog := X.prog) (w := X.w) hh j a (hj a (by simp [Kd.own])) its.toArray
    rw [show its.toArray.size = xs.length by rw [List.size_toArray]; omega] at D
    refine ⟨_, _, D, ⟨hi, p.isList⟩, fun m h x => x.1, fun m v e => ?_⟩
    have e' : its[m]? = some v := by simpa using e
    have hm : m < xs.length := by have := (List.getElem?_eq_some_iff.mp e').1; omega
    obtain ⟨u, hu, ru⟩ := rv.get (List.getElem?_eq_getElem hm)
    rw [e'] at hu; cases hu
    exact ⟨_, List.getElem?_eq_getElem hm, ru⟩
  | tup a =>
    obtain ⟨its, rv, p, hz⟩ := I.tuple (SqT.of (K := X.K) (show H a = some (.tup xs) from hs))
    have hl := rv.length
    have D := Draws.tuple (prog := X.prog) (w := X.w) hh j a (hj a (by simp [Kd.own])) its.toArray
    rw [show its.toArray.size = xs.length by rw [List.size_toArray]; omega] at D
    refine ⟨_, _, D, ⟨hi, p⟩, fun m h x => x.1, fun m v e => ?_⟩
    have e' : its[m]? = some v := by simpa using e
    have hm : m < xs.length := by have := (List.getElem?_eq_some_iff.mp e').1; omega
    obtain ⟨u, hu, ru⟩ := rv.get (List.getElem?_eq_getElem hm)
    rw [e'] at hu; cases hu
    exact ⟨_, List.getElem?_eq_getElem hm, ru⟩
  | txt z t =>
    obtain rfl : xs = sigs z := hs
    have D := Draws.text (prog := X.prog) (w := X.w) hh j z t
    rw [← sigs_len] at D
    refine ⟨_, _, D, hi, fun m h x => x, fun m v e => ?_⟩
    obtain ⟨c, u, e1, rfl⟩ := e
    exact ⟨.str ⟨#[c]⟩, by rw [sigs_at, e1]; rfl, u, rfl⟩
/-- both as they stand at each turn, the items in new pairs -/
def ItzG (k1 k2 : Kd) (xs ys : List V) : It :=
  ⟨fun i H => k1.src H xs ∧ k2.src H ys ∧ i < min xs.length ys.length,
    fun i H v H' => ∃ T x y, v = .ref T ∧ H T = none ∧ H' = upd H T (.tup [x, y]) ∧ xs[i]? = some x ∧ ys[i]? = some y,
    fun i H => k1.src H xs ∧ k2.src H ys ∧ i = min xs.length ys.length⟩
theorem walk_zipG {k1 k2 : Kd} {xs ys : List V} : Walk (ItzG k1 k2 xs ys) (min xs.length ys.length) (fun H => k1.src H xs ∧ k2.src H ys) (YPair (fun i => xs[i]?) (fun i => ys[i]?)) :=
  ⟨fun i _ hi q => ⟨q.1, q.2, hi⟩, fun _ q => ⟨q.1, q.2, rfl⟩, fun _ _ _ _ _ _ y => y⟩
theorem turn_zipG {P : Program} {w : World} {K : PySem.W.Frag} {elts : List Expr} {kk : Nat} {tpos : Pos} {z TI TO i1 i2 : Addr} {k1 k2 : Kd} {xs ys : List V} (D : ZipSep2 z TI TO i1 i2 (k1.fp i1) (k2.fp i2)) (ho1 : ∀ a ∈ k1.own, a ≠ i1) (ho2 : ∀ a ∈ k2.own, a ≠ i2) :
    Turn P w K (.Tuple elts kk tpos) (ItzG k1 k2 xs ys) [z, TI, TO, i1, i2] z (fun i h => IsZip h z TI TO .none ∧ IsTupOf2 h TI (.ref i1) (.ref i2) ∧ (∃ x y, IsTupOf2 h TO x y) ∧ k1.it h i1 i ∧ k2.it h i2 i) where
  mem := by simp
  obj := fun i h st c hc => by
    obtain ⟨hz, hTI, ⟨x, y, hTO⟩, h1, h2⟩ := st
    have e' : c = z ∨ c = TI ∨ c = TO ∨ c = i1 ∨ c = i2 := by simpa using hc
    rcases e' with q | q | q | q | q
    · rw [q]; exact ⟨_, hz, fun v q => nomatch q⟩
    · rw [q]; exact ⟨_, hTI, fun v q => nomatch q⟩
    · rw [q]; exact ⟨_, hTO, fun v q => nomatch q⟩
    · rw [q]; exact Kd.it_obj h1
    · rw [q]; exact Kd.it_obj h2
  keep := fun i h h' st k => by
    obtain ⟨hz, hTI, ⟨x, y, hTO⟩, h1, h2⟩ := st
    exact ⟨k z (by simp) _ hz, k TI (by simp) _ hTI, ⟨x, y, k TO (by simp) _ hTO⟩, Kd.it_keep h1 fun o q => k i1 (by simp) o q, Kd.it_keep h2 fun o q => k i2 (by simp) o q⟩
  item := by
    intro X hP hw hK hc i pins s σ H E I hf st hg
    subst hP hw hK
    obtain ⟨hz, hTI, ⟨x0, y0, hTO⟩, h1, h2⟩ := st
    obtain ⟨hqx, hqy, hlt⟩ := hg
    have hh : X.A.in1.handled = none := I.ok.hd hc
    obtain ⟨P1, St1, D1, s1, b1, r1⟩ := Kd.draws (A := X.A.in1) I hh hqx h1 ho1
    obtain ⟨P2, St2, D2, s2, b2, r2⟩ := Kd.draws (A := X.A.in1) I hh hqy h2 ho2
    have hzl : z < s.heap.objs.size := Heap.lt_size hz
    refine wpAny_pyNext_zipD2_item D D1 D2 hz hTI hTO s1 s2 (by omega) (by omega) fun u u2 h' tk q1 q2 z' TO' h1' h2' hT hsz hk => ?_
    obtain ⟨x, hx, ru⟩ := r1 i u q1
    obtain ⟨y, hy, ru2⟩ := r2 i u2 q2
    refine ⟨_, rfl, wpAny_letOwnedTupleGo_zip (s := { s with heap := h', toks := tk }) z' fun h'' z'' sb => ?_⟩
    have hT2 : h''.get? s.heap.objs.size = some { cls := .type "tuple", data := .seq #[u, u2] } := (sb.2 _ (Nat.ne_of_gt hzl)).trans hT
    have new : ObjOk X.prog X.w (upd H s.heap.objs.size (.tup [x, y])) h'' s.heap.objs.size (.tup [x, y]) :=
      ⟨by show 2 ≤ sizeLine; decide, [u, u2], .cons ru (.cons ru2 .nil), ⟨_, hT2, rfl, _, rfl⟩⟩
    have I1 : Inv X pins σ (upd H s.heap.objs.size (.tup [x, y])) { s with heap := h'', toks := tk } :=
      I.turnedNew (t' := tk) (ch := [z, TI, TO, i1, i2]) (fun c o hb q => (sb.2 c (fun q' => hb (by simp [q']))).trans (hk c o (fun q' => hb (by simp [q'])) (fun q' => hb (by simp [q'])) (fun q' => hb (by simp [q'])) (fun q' => hb (by simp [q'])) q)) hf (Nat.le_refl _) new
    refine ⟨.ref s.heap.objs.size, _, I1, rfl, ⟨_, x, y, rfl, I.hok.fresh (Nat.le_refl _), rfl, hx, hy⟩, ⟨z'', ?_, ⟨u, u2, ?_⟩, ?_, ?_⟩, fun c hcm => ?_⟩
    · exact (sb.2 _ D.TIz).trans (hk _ _ D.TIz D.TITO D.TIi1 D.TIi2 hTI)
    · exact (sb.2 _ D.TOz).trans TO'
    · exact Kd.it_keep (b1 _ _ h1') fun o q => (sb.2 _ (Ne.symm D.zi1)).trans q
    · exact Kd.it_keep (b2 _ _ h2') fun o q => (sb.2 _ (Ne.symm D.zi2)).trans q
    · have hlt : c < s.heap.objs.size := by
        have e' : c = z ∨ c = TI ∨ c = TO ∨ c = i1 ∨ c = i2 := by simpa using hcm
        rcases e' with q | q | q | q | q
        · rw [q]; exact hzl
        · rw [q]; exact Heap.lt_size hTI
        · rw [q]; exact Heap.lt_size hTO
        · rw [q]; obtain ⟨_, e1, _⟩ := Kd.it_obj h1; exact Heap.lt_size e1
        · rw [q]; obtain ⟨_, e2, _⟩ := Kd.it_obj h2; exact Heap.lt_size e2
      rw [upd_ne (Nat.ne_of_lt hlt)]
      exact (hf c hcm).1
  done := by
    intro X hP hw hK hc i pins s σ H E I hf st hg
    subst hP hw hK
    obtain ⟨hz, hTI, ⟨x0, y0, hTO⟩, h1, h2⟩ := st
    obtain ⟨hqx, hqy, hend⟩ := hg
    have hh : X.A.in1.handled = none := I.ok.hd hc
    obtain ⟨P1, St1, D1, s1, b1, r1⟩ := Kd.draws (A := X.A.in1) I hh hqx h1 ho1
    obtain ⟨P2, St2, D2, s2, b2, r2⟩ := Kd.draws (A := X.A.in1) I hh hqy h2 ho2
    exact wpAny_pyNext_zipD2_end D D1 D2 hz hTI hTO s1 s2 (by omega) (by omega) (by omega) fun h' tk hk => ⟨rfl, I.turnedL (t' := tk) (ch := [z, TI, TO, i1, i2]) (fun c o hb q =>
      hk c o (fun q' => hb (by simp [q'])) (fun q' => hb (by simp [q'])) (fun q' => hb (by simp [q'])) (fun q' => hb (by simp [q'])) q) hf⟩
  self := fun A i s Q E st h => wpAny_pyIter_zip st.1 h
/-- what is walked: a row or a text -/
def SeqV (H : Hp) (x : V) (xs : List V) : Prop := (∃ a, x = .ref a ∧ Row H a xs) ∨ ∃ z, x = .str z ∧ xs = sigs z
def iZipG (ta : TA) : TI := fun σ H R => ta σ H fun vs H1 => ∃ (x y : V) (xs ys : List V), vs = [x, y] ∧ SeqV H1 x xs ∧ SeqV H1 y ys ∧
  ∀ (J : It) (G : Hp → Prop), Walk J (min xs.length ys.length) G (YPair (fun i => xs[i]?) (fun i => ys[i]?)) → (∀ H' : Hp, (∀ a, x = .ref a → H' a = H1 a) → (∀ a, y = .ref a → H' a = H1 a) → G H') → R J H1
structure SrcOk (X : Cx) (H : Hp) (s : Shared) (x : V) (u : Value) (xs : List V) (k : Kd) (o : Obj) (B : Heap → Prop) : Prop where
  begins : Begins u o B
  now : B s.heap
  off : k.off s.heap.objs.size
  src : ∀ H' : Hp, (∀ a, x = .ref a → H' a = H a) → k.src H' xs
  it : ∀ (h : Heap) (j : Addr), h.get? j = some o → k.it h j 0
theorem SeqV.ok {X : Cx} {pins : List (Addr × Obj)} {σ : L2.St} {H : Hp} {s : Shared} {x : V} {u : Value} {xs : List V} (I : Inv X pins σ H s) (r : RelV x u) (h : SeqV H x xs) : ∃ k o B, SrcOk X H s x u xs k o B := by
  rcases h with ⟨a, rfl, h | h⟩ | ⟨z, rfl, rfl⟩
  · obtain rfl : u = .ref a := r
    obtain ⟨its, rv, p, hz⟩ := I.list (SqL.of (K := X.K) h)
    exact ⟨.lst a, _, _, begins_list a its.toArray, p.isList, p.lt, fun H' e => (e a rfl).trans h, fun h' j e => ⟨_, e, rfl, rfl⟩⟩
  · obtain rfl : u = .ref a := r
    obtain ⟨its, rv, p, hz⟩ := I.tuple (SqT.of (K := X.K) h)
    exact ⟨.tup a, _, _, begins_tuple a its.toArray, p, (let ⟨_, e, _⟩ := id p; Heap.lt_size e), fun H' e => (e a rfl).trans h, fun h' j e => ⟨_, e, rfl, rfl⟩⟩
  · obtain ⟨t, rfl⟩ := r
    exact ⟨.txt z t, _, _, begins_text z t, trivial, trivial, fun _ _ => rfl, fun h' j e => ⟨_, e, rfl, rfl⟩⟩
theorem Kd.own_lt {N : Nat} {k : Kd} (h : k.off N) : ∀ a ∈ k.own, a < N := by
  cases k with
  | lst b => intro a m; rw [List.mem_singleton.mp m]; exact h
  | tup b => intro a m; rw [List.mem_singleton.mp m]; exact h
  | txt z t => intro a m; cases m
theorem pi_zipG {X : Cx} {e e2 : Expr} {ta : TA} {p pos tpos : Pos} {elts : List Expr} {kk : Nat} (hg : Gl X "zip") (hm : X.mg "zip" = none) (ha : PA X [e, e2] ta)
    (hs : starEach [e, e2] X.env = (false, eval e X.env) :: starEach [e2] X.env := by rfl) (hpl : (backTo pos (starEach [e2] X.env)).any (·.1) = false := by rfl) :
    PI X (.Tuple elts kk tpos) (.Call (.Name "zip" p) [e, e2] [] pos) (iZipG ta) := by
  refine ⟨fun pins s σ H R I h => ?_⟩
  refine Call_ (ld_blt I hg hm PyProof.Rows.boot_zip (PyProof.Rows.callWith_type1 (thn (ha.run pos pins s σ H _ I h) fun us s1 ⟨vs, H1, I1, r1, q1⟩ => ?_) hs hpl))
  obtain ⟨x, y, xs, ys, ex, hx, hy, q⟩ := q1
  subst ex
  cases r1 with
  | cons r rr =>
    cases rr with
    | cons r' rr =>
      cases rr
      obtain ⟨k1, o1, B1, S1⟩ := hx.ok I1 r
      obtain ⟨k2, o2, B2, S2⟩ := hy.ok I1 r'
      have fresh5 : ∀ c, c ∈ [s1.heap.objs.size + 4, s1.heap.objs.size + 2, s1.heap.objs.size + 3, s1.heap.objs.size, s1.heap.objs.size + 1] → FpOk X pins H1 c := fun c hcm => by
        have e' : c = s1.heap.objs.size + 4 ∨ c = s1.heap.objs.size + 2 ∨ c = s1.heap.objs.size + 3 ∨ c = s1.heap.objs.size ∨ c = s1.heap.objs.size + 1 := by simpa using hcm
        have hle : s1.heap.objs.size ≤ c := by
          rcases e' with z | z | z | z | z
          · rw [z]; exact Nat.le_add_right _ _
          · rw [z]; exact Nat.le_add_right _ _
          · rw [z]; exact Nat.le_add_right _ _
          · rw [z]; exact Nat.le_refl _
          · rw [z]; exact Nat.le_add_right _ _
        exact I1.fpOk hle (I1.hok.fresh hle)
      refine zip_begins2 S1.begins S2.begins S1.now S2.now fun h' hz hTI hTO ho1 ho2 hsz hk => wpAny_pyIter_zip hz ?_
      have I2 : Inv X pins σ H1 { s1 with heap := h' } := I1.kept (t' := s1.toks) hk
      have D : ZipSep2 (s1.heap.objs.size + 4) (s1.heap.objs.size + 2) (s1.heap.objs.size + 3) s1.heap.objs.size (s1.heap.objs.size + 1) (k1.fp s1.heap.objs.size) (k2.fp (s1.heap.objs.size + 1)) := by
        rw [Kd.fp_own, Kd.fp_own]
        exact zip_sep2 (Kd.own_lt S1.off) (Kd.own_lt S2.off)
      exact ⟨s1.heap.objs.size + 4, [s1.heap.objs.size + 4, s1.heap.objs.size + 2, s1.heap.objs.size + 3, s1.heap.objs.size, s1.heap.objs.size + 1], _, _, H1, rfl, I2,
        turn_zipG (k1 := k1) (k2 := k2) (xs := xs) (ys := ys) D (fun a m => Nat.ne_of_lt (Kd.own_lt S1.off a m)) (fun a m => Nat.ne_of_lt (Nat.lt_of_lt_of_le (Kd.own_lt S2.off a m) (Nat.le_succ _))),
        ⟨hz, hTI, ⟨_, _, hTO⟩, S1.it _ _ ho1, S2.it _ _ ho2⟩, fresh5, q _ _ walk_zipG fun H' e1 e2 => ⟨S1.src H' e1, S2.src H' e2⟩⟩
end My

/-! KitL6 -/
/-! tuple(d.values()) -/
namespace PySem.W
open PySem PySem.Calls PyProof.Rows PyProof.V PySem.Spec
section
variable {prog : Program} {w : World} {A : Around} {E : Value → Shared → Prop} {s : Shared} {T : String} {r d : Addr} {n : Nat} {P : Nat → Value → Prop} {OK : Heap → Prop}
theorem collect_src {Q : List Value → Shared → Prop} (K : KdlSrc prog w T r d n P OK) (hh : A.handled = none) (hok : OK s.heap) (hn : n ≤ sizeLine)
    (hQ : ∀ (h' : Heap) (tk : Nat) (acc : Array Value), (∀ b o, s.heap.get? b = some o → h'.get? b = some o) → ItemsOf P acc n → Q acc.toList { s with heap := h', toks := tk }) :
    wpAny (model prog w) A (collect (.ref r)) Q E s := by
  unfold collect
  refine wpAny_bind (wpAny_runValue (codeAny_builtin PySem.F.entry_proto_collect ?_))
  rw [Around.under_plainId PySem.F.plain_proto_collect _]
  show wpAny _ A.in1 (newList [] >>= fun l => again (.builtin "list.__iadd__" ⟨[l, .ref r], []⟩)) _ _ s
  refine wpAny_bind (wpAny_newObj_type ?_)
  refine wpAny_pure ⟨plainId_quiet PySem.F.plain_list_iadd _, codeAny_builtin PySem.F.entry_list_iadd ?_⟩
  rw [Around.under_plainId PySem.F.plain_list_iadd _]
  show wpAny _ A.in1 (Builtin.List.listExtendWith (.ref s.heap.objs.size) (.ref r) (.ref s.heap.objs.size)) _ _ _
  have hS : (s.heap.push { cls := .type "list", data := .seq ([] : List Value).toArray }).get? s.heap.objs.size = some { cls := .type "list", data := .seq #[] 0 } := Heap.get?_push_size _ rfl
  have th := K.there _ hok
  refine wpAny_mono (kdl_extend (A := A) (R := fun rr s' => rr = .ok (.ret (.ref s.heap.objs.size)) ∧ ∃ (h' : Heap) (tk : Nat) (acc : Array Value) (c' : Nat), s' = { s with heap := h', toks := tk } ∧
      (∀ b o, s.heap.get? b = some o → h'.get? b = some o) ∧ h'.get? s.heap.objs.size = some { cls := .type "list", dict := none, data := .seq acc c', slots := #[] } ∧ ItemsOf P acc n)
    (s := { s with heap := s.heap.push { cls := .type "list", data := .seq ([] : List Value).toArray } }) K hh (K.keep _ _ hok fun b _ o e => Heap.get?_push_of_some _ e) s.heap.objs.size (Nat.ne_of_gt th.1) (Nat.ne_of_gt th.2) _ 0 hS
    (fun h' tk acc c' hk e hi => ⟨rfl, h', tk, acc, c', rfl, fun b o q => hk b o (Nat.ne_of_lt (Heap.lt_size q)) (Heap.get?_push_of_some _ q), e, hi⟩) hn) (fun fin s' h => ?_) (fun e s' h => ?_)
  · cases fin with
    | done f =>
      obtain ⟨e, h', tk, acc, c', rfl, hk, hS', hi⟩ := h
      cases e
      show wpAny _ A (load s.heap.objs.size >>= _) _ _ _
      exact wpAny_bind (wpAny_load hS' (wpAny_pure (hQ h' tk acc hk hi)))
    | again c' =>
      refine ⟨h.1, codeAny_mono h.2 fun rr s'' hr' => ?_⟩
      obtain ⟨rfl, h', tk, acc, c', rfl, hk, hS', hi⟩ := hr'
      show wpAny _ A (load s.heap.objs.size >>= _) _ _ _
      exact wpAny_bind (wpAny_load hS' (wpAny_pure (hQ h' tk acc hk hi)))
  · exact absurd h.1 (by simp)
theorem code_tuple_new_vals {Q₁ : Value → Shared → Prop} (K : KdlSrc prog w "dict_values" r d n P OK) (hh : A.handled = none) (hok : OK s.heap) (hn : n ≤ sizeLine)
    (h : ∀ (h' : Heap) (tk : Nat) (acc : Array Value), (∀ b o, s.heap.get? b = some o → h'.get? b = some o) → ItemsOf P acc n →
      Q₁ (.ref h'.objs.size) { s with heap := h'.push { cls := .type "tuple", data := .seq acc }, toks := tk }) :
    codeAny (model prog w) A (.call (.builtin "tuple.__new__") ⟨[.type "tuple", .ref r], []⟩) (wants Q₁ E) s := by
  refine codeAny_of_tree ?_
  show wpAny _ A.in1 (do checkBuiltinCall "tuple.__new__" ⟨[.type "tuple", .ref r], []⟩; again (.builtin "tuple.__new__" ⟨[.type "tuple", .ref r], []⟩)) _ _ s
  refine wpAny_bind (wpAny_of_eq (PySem.F.newCall_tuple_1 _) (wpAny_pure ⟨plainId_quiet PySem.F.plain_tuple_new _, codeAny_builtin PySem.F.entry_tuple_new ?_⟩))
  rw [Around.under_plainId PySem.F.plain_tuple_new _]
  have hsub := sub_tuple_self
  have hinit := init_tuple_lookup
  have hmh := madeHere_tuple
  have hTI : s.TypeIs (.ref r) "dict_values" := K.type s hok
  have hh1 : A.in1.handled = none := hh
  wp_walk using wpAny_typeOf hTI, collect_src (A := A.in1) K hh1 hok hn
  intro h' tk acc hk hacc
  show wpAny _ _ (Builtin.Tuple.tupleExact acc.toList.toArray >>= fun v => ret v) _ _ _
  unfold Builtin.Tuple.tupleExact
  refine wpAny_bind (wpAny_newObj_type ?_ (by show acc.toList.toArray.size ≤ sizeLine; simp only [Array.toArray_toList]; rw [hacc.1]; exact hn))
  refine wpAny_pure ?_
  have e : acc.toList.toArray = acc := by simp
  rw [e]
  exact h h' tk acc hk hacc
theorem call_tuple_vals {Q : Value → Shared → Prop} (K : KdlSrc prog w "dict_values" r d n P OK) (hh : A.handled = none) (hok : OK s.heap) (hn : n ≤ sizeLine)
    (hQ : ∀ (h' : Heap) (tk : Nat) (acc : Array Value), (∀ b o, s.heap.get? b = some o → h'.get? b = some o) → ItemsOf P acc n →
      Q (.ref h'.objs.size) { s with heap := h'.push { cls := .type "tuple", data := .seq acc }, toks := tk }) :
    wpAny (model prog w) A (call (.type "tuple") [.ref r]) Q E s := by
  refine callType_codes (Q₁ := fun obj s₁ => s₁.TypeIs obj "tuple" ∧ Q obj s₁) PySem.F.called_tuple (PySem.F.typeCall_tuple_1 _) PySem.F.entry_object_init
    (code_tuple_new_vals (A := A.in1) K hh hok hn fun h' tk acc hk hacc => ⟨⟨_, Heap.get?_push_size _ rfl, rfl⟩, hQ h' tk acc hk hacc⟩) fun obj s₁ h₁ => ?_
  exact ⟨h₁.1, PySem.F.args_object_init_2 obj _, object_init_meets PySem.F.called_tuple.init.lookup PySem.F.called_tuple.made (by decide) prog w A.in1 _ s₁ ⟨h₁.1, rfl, h₁.2⟩⟩
end
end PySem.W
namespace My
open PySem PySem.Spec PyProof.Rows L2
def tTupVals (te : TE) : TE := fun σ H Q => te σ H fun x H1 => ∃ (d : Addr) (kvs : List (Key × V)), x = .ref d ∧ H1 d = some (.dK kvs) ∧ ∀ q, H1 q = none → Q (.ref q) (upd H1 q (.tup (kvs.map Prod.snd)))
section
variable {X : Cx} {e : Expr} {te : TE} {p apos cpos pos : Pos}
theorem vals_by {kvs : List (Key × V)} {vs : List (Key × Value)} {acc : Array Value} (kv : KV kvs vs) (h : ItemsOf (fun i v => ∃ k, vs[i]? = some (k, v)) acc vs.length) : Vals (kvs.map Prod.snd) acc.toList := by
  have lk : kvs.length = vs.length := Paired.length kv
  have ea : acc.toList = vs.map Prod.snd := by
    apply List.ext_getElem?
    intro j
    rw [List.getElem?_map]
    cases hj : acc.toList[j]? with
    | none =>
      have h1 := List.getElem?_eq_none_iff.mp hj
      rw [Array.length_toList, h.1] at h1
      rw [List.getElem?_eq_none h1]; rfl
    | some v =>
      obtain ⟨k, e⟩ := h.2 j v (by rw [← Array.getElem?_toList]; exact hj)
      rw [e]; rfl
  rw [ea]
  clear ea h lk
  induction kv with
  | nil => exact .nil
  | cons h t ih => exact .cons h.2 ih
theorem pe_tupVals (hc : X.calm = true) (he : PE X e te) (hg : Gl X "tuple") (hm : X.mg "tuple" = none) (hbase : attributeBase e "values" X.env (eval e X.env) = eval e X.env := by rfl) (hline : (apos.endLine == cpos.line) = true := by rfl)
    (hs : starEach [.Call (.Attribute e "values" apos) [] [] cpos] X.env = (false, eval (.Call (.Attribute e "values" apos) [] [] cpos) X.env) :: starEach [] X.env := by rfl) :
    PE X (.Call (.Name "tuple" p) [.Call (.Attribute e "values" apos) [] [] cpos] [] pos) (tTupVals te) := by
  refine ⟨fun pins s σ H Q I hq => ?_⟩
  refine wpAny_Call_Name_kw (ld_blt I hg hm boot_tuple ?_)
  refine PyProof.Rows.callWith_type1 ?_ hs rfl
  rw [hs]
  show wpAny _ _ (spliced ((false, eval (.Call (.Attribute e "values" apos) [] [] cpos) X.env) :: backTo pos (starEach [] X.env))) _ _ s
  refine Calls.spliced_cons ?_
  refine wpAny_Call_method (T := "dict") (id := "dict.values") hbase rfl hline F.plainAttrs_dict F.slot_dict_values F.type_dict_values (thn (he.run pins s σ H _ I hq) fun u s1 ⟨x, H1, I1, rx, d, kvs, ex, hd, q⟩ => ?_)
  subst ex
  obtain rfl : u = Value.ref d := rx
  obtain ⟨hz, hs0, vs, kv, hdo⟩ := I1.hok d _ hd
  obtain ⟨ep, hat⟩ := hdo.dictAt
  have lk : kvs.length = vs.length := Paired.length kv
  refine ⟨hdo.typeIs, hdo.mapOf.noDict, ?_⟩
  show wpAny _ _ (callWith cpos (.builtin "dict.values") [.ref d] [] []) _ X.xe s1
  refine method_meetsIn F.slot_dict_values F.entry_dict_values rfl (PySem.evalArgs_none ⟨rfl, hdo.typeIs, F.args_dict_values_1 _, _, meets_dict_values (mixKind X.prog X.w) d hs0, ⟨vs, hdo⟩, ?_⟩)
  refine Calls.spliced_nil ?_
  have I2 : Inv X pins σ H1 { s1 with heap := s1.heap.push { cls := .type "dict_values", data := .fields #[.ref d] } } := I1.kept (t' := s1.toks) fun b ob q => Heap.get?_push_of_some _ q
  refine PySem.W.call_tuple_vals (s := { s1 with heap := s1.heap.push { cls := .type "dict_values", data := .fields #[.ref d] } }) (PySem.W.kdl_values (knd := mixKind X.prog X.w) (kvs := vs) (ep := ep)) (I1.ok.hd hc) ⟨⟨_, Heap.get?_push_size _ rfl, rfl, rfl⟩, hat.push _⟩ (by omega) fun h' tk acc hk hacc => ?_
  have I3 : Inv X pins σ H1 { s1 with heap := h', toks := tk } := I2.kept (t' := tk) hk
  have rv := vals_by kv hacc
  refine ⟨.ref _, _, I3.laid (t' := tk) (o := .tup (kvs.map Prod.snd)) (fun b ob q => Heap.get?_push_of_some _ q) (Nat.le_refl _) ?_, rfl, q _ (I3.hok.fresh (Nat.le_refl _))⟩
  exact ⟨by rw [List.length_map]; exact hz, acc.toList, rv, _, Heap.get?_push_size _ rfl, rfl, 0, by simp⟩
end
end My

/-! KitL7 -/
/-! small words -/
namespace My
open PySem PySem.Spec PyProof.Rows L2
section
variable {X : Cx}
theorem pe_tr {e : Expr} {t t' : TE} (h : PE X e t) (q : t = t') : PE X e t' := q ▸ h
theorem pg_tr {e : Expr} {t t' : TG} (h : PG X e t) (q : t = t') : PG X e t' := q ▸ h
theorem pts_tr {e : List Expr} {t t' : TT} (h : PTs X e t) (q : t = t') : PTs X e t' := q ▸ h
/-- str of an int or a text -/
theorem call_strA : CallR X (.type "str") (fun xs H Q => (∃ i, xs = [.int i] ∧ i.natAbs.log2 < 1920 ∧ Q (.str (toString i)) H) ∨ ∃ a, xs = [.str a] ∧ Q (.str a) H) := by
  intro pins s σ H xs us Q I r h
  rcases h with h | h
  · exact call_str_int pins s σ H xs us Q I r h
  · exact SkE.call_str_str pins s σ H xs us Q I r h
theorem call_tupleS : CallR X (.type "tuple") (fun xs H Q => ∃ p ys, xs = [.ref p] ∧ ((SqL X.K H p ys ∧ ∀ l, H l = none → Q (.ref l) (upd H l (.tup ys))) ∨ (SqT X.K H p ys ∧ Q (.ref p) H))) := callR_imp call_tuple_of fun _ _ _ h => h
theorem call_tupleTT : CallR X (.type "tuple") (fun xs H Q => ∃ p ys, xs = [.ref p] ∧ SqT X.K H p ys ∧ Q (.ref p) H) := callR_imp call_tuple_of fun _ _ _ ⟨p, ys, e, h, q⟩ => ⟨p, ys, e, .inr ⟨h, q⟩⟩
end
/-- the scope of a comprehension; what a statement assigns -/
def cscope : Expr → Scope
  | .ListComp _ _ sc _ => sc
  | .DictComp _ _ _ sc _ => sc
  | _ => { kind := .function, names := [], isGenerator := false, isCoroutine := false }
def asgV : Stmt → Expr
  | .Assign _ v _ => v
  | _ => .Constant .none 0 ⟨0, 0, 0, 0⟩
open PySem in
theorem blk_rel {N : List Str} {sc scope : Scope} {own : List (Str × Nat)} {env : Env} (h : BlkOk N sc scope own) : BlkOk N (relabel sc env) scope own := by
  refine ⟨h.kind, h.uniq, h.ix, fun y hy hk => ?_, h.own⟩
  have := h.free y hy hk
  unfold relabel
  revert this
  show _ → List.lookup y.fst (sc.names.map _) = _ ∨ List.lookup y.fst (sc.names.map _) = _
  induction sc.names with
  | nil => exact id
  | cons q r ih =>
    obtain ⟨n, kd⟩ := q
    intro e
    rw [List.map_cons]
    rw [List.lookup_cons] at e
    dsimp only at e ⊢
    split
    · rename_i c
      have ck : kd = NameKind.free := by
        have := (Bool.and_eq_true _ _ ▸ (Bool.and_eq_true _ _ ▸ c).1).1
        exact eq_of_beq this
      rw [List.lookup_cons]
      cases b : (y.fst == n) with
      | true => exact .inl rfl
      | false => rw [b] at e; exact ih e
    · rw [List.lookup_cons]
      cases b : (y.fst == n) with
      | true => rw [b] at e; exact e
      | false => rw [b] at e; exact ih e
end My

/-! KitL8 -/
/-! a dict comprehension over anything that is walked -/
namespace My
open PySem L2
section
variable {J : It} {n : Nat} {G : Hp → Prop} {Y : Nat → Hp → V → Hp → Prop}
theorem dc_it (w : Walk J n G Y) {g : TG} {tt : TT} {tk tv : TE} {vs : List Nat} {σ : St} {H1 : Hp} {D : Addr} {Qd : Hp → Prop} (Pv : Nat → Hp → Prop) (h0 : Pv 0 (upd H1 D (.dK []))) (hG : ∀ i H, i ≤ n → Pv i H → G H)
    (hs : ∀ i x H H', i < n → Pv i H → Y i H x H' → g x (wipe σ vs) H' fun σ2 H2 => wipe σ2 vs = wipe σ vs ∧ tt σ2 H2 fun b H3 =>
      if b = true then tk σ2 H3 fun y H4 => tv σ2 H4 fun z H5 => ∃ kvs k, y = kV k ∧ H5 D = some (.dK kvs) ∧ kvs.length < sizeLine ∧ Pv (i + 1) (upd H5 D (.dK (putK kvs k z))) else Pv (i + 1) H3) (hd : ∀ H, Pv n H → Qd H) :
    ∃ W : Nat → Nat → Hp → Prop, (∃ m, W 0 m (upd H1 D (.dK []))) ∧ ∀ i m H, W i m H →
      (J.stop i H ∧ Qd H) ∨ (J.go i H ∧ ∃ Nx : Hp → Prop, (∀ H', Nx H' → ∃ m', m' < m ∧ W (i + 1) m' H') ∧ ∀ x H', J.yld i H x H' → g x (wipe σ vs) H' fun σ2 H2 => wipe σ2 vs = wipe σ vs ∧ tt σ2 H2 fun b H3 =>
        if b = true then tk σ2 H3 fun y H4 => tv σ2 H4 fun z H5 => ∃ kvs k, y = kV k ∧ H5 D = some (.dK kvs) ∧ kvs.length < sizeLine ∧ Nx (upd H5 D (.dK (putK kvs k z))) else Nx H3) := by
  refine ⟨fun i m H => m = n - i ∧ i ≤ n ∧ Pv i H, ⟨n, rfl, Nat.zero_le _, h0⟩, ?_⟩
  rintro i m H ⟨rfl, hi, p⟩
  have q := hG i H hi p
  rcases Nat.lt_or_ge i n with hlt | hge
  · exact .inr ⟨w.goes i H hlt q, Pv (i + 1), fun H' p' => ⟨n - (i + 1), by omega, rfl, hlt, p'⟩, fun x H' y => hs i x H H' hlt p (w.yields i H x H' hlt q y)⟩
  · obtain rfl : i = n := Nat.le_antisymm hi hge
    exact .inl ⟨w.stops H q, hd H p⟩
end
end My

/-! KitL9 -/
/-! a text times a number -/
namespace My
open PySem L2
def repS (x : Str) (n : Nat) : Str := ⟨(List.replicate n x.cps).foldl (· ++ ·) #[]⟩
theorem repS_one (x : Str) : repS x 1 = x := by
  unfold repS
  show (⟨#[] ++ x.cps⟩ : Str) = x
  rw [Array.empty_append]
theorem fold_emp (n : Nat) : (List.replicate n (#[] : Array Nat)).foldl (· ++ ·) #[] = #[] := by
  induction n with
  | zero => rfl
  | succ n ih => rw [List.replicate_succ, List.foldl_cons]; simpa using ih
section
variable {X : Cx}
theorem op_rep_str : OpR X (binaryOp .Mult) (fun x y H Q => ∃ z k, x = .str z ∧ y = .int k ∧ 0 ≤ k ∧ k ≤ 1000 ∧ z.length ≤ 1000 ∧ Q (.str (repS z k.toNat)) H) := by
  intro pins s σ H x y v u Q I rx ry h
  obtain ⟨z, k, rfl, rfl, h0, h1, hz, q⟩ := h
  obtain ⟨t, rfl⟩ := rx
  obtain ⟨t', rfl⟩ := ry
  have hm : z.length * k.toNat ≤ 1000 * 1000 := Nat.mul_le_mul hz (by omega)
  have sz : sizeLine = 16777216 := sizeLine_eq
  refine PySem.P.mul_str (by rw [decide_eq_false (by omega), decide_eq_false (by omega)]; rfl) (fun c _ => ?_) (fun _ _ => ?_) ?_
  · have e1 : ((z.length * k.toNat : Nat) : Int) = (z.length : Int) * k := by
      rw [Int.natCast_mul, Int.toNat_of_nonneg h0]
    have := Int.le_ediv_of_mul_le (a := (z.length : Int)) (b := 2 ^ 63 - 1) (c := k) (by omega) (by rw [← e1]; omega)
    omega
  · unfold Builtin.Str.tooLong
    exact decide_eq_false (by omega)
  · by_cases c1 : k < 1
    · rw [if_pos c1]
      have e : k.toNat = 0 := by omega
      rw [e] at q
      exact ⟨by rw [sz]; decide, .str _, H, I.tok _, ⟨_, rfl⟩, q⟩
    · rw [if_neg c1]
      by_cases c2 : (k == 1 || z.length == 0) = true
      · rw [if_pos c2]
        have e : repS z k.toNat = z := by
          rcases (Bool.or_eq_true _ _).mp c2 with c | c
          · have : k.toNat = 1 := by have := eq_of_beq c; omega
            rw [this, repS_one]
          · have : z.cps.size = 0 := eq_of_beq c
            have e0 : z = ⟨#[]⟩ := by cases z; congr 1; exact Array.eq_empty_of_size_eq_zero this
            subst e0
            unfold repS
            rw [fold_emp]
        rw [e] at q
        exact ⟨.str _, H, I, ⟨_, rfl⟩, q⟩
      · rw [if_neg c2]
        refine ⟨?_, .str _, H, I.tok _, ⟨_, rfl⟩, q⟩
        have : ∀ n : Nat, ((List.replicate n z.cps).foldl (· ++ ·) #[]).size = n * z.cps.size := fun n => by
          have g : ∀ (n : Nat) (a : Array Nat), ((List.replicate n z.cps).foldl (· ++ ·) a).size = a.size + n * z.cps.size := fun n => by
            induction n with
            | zero => intro a; simp
            | succ n ih => intro a; rw [List.replicate_succ, List.foldl_cons, ih, Array.size_append, Nat.succ_mul]; omega
          rw [g]; simp
        show ((List.replicate k.toNat z.cps).foldl (· ++ ·) #[]).size ≤ _
        rw [this, Nat.mul_comm]
        show z.length * k.toNat ≤ _
        omega
end
end My

/-! KitLA -/
/-! isinstance of a caught error that has attributes of its own -/
namespace My
section
open PySem PySem.Spec PySem.Calls PyProof.Rows PySem.W
variable {prog : Program} {w : World} {A : Around} {E : Value → Shared → Prop} {s : Shared} {K : Frag} {x D : Addr} {ox : Obj}
theorem found_class {C : Addr} {od : Option Obj} {name : Str} {a g : Value} (hc : hasDictIn K C = true) (ha : findIn K (.ref C) name = some (some a)) (hg : specialIn K a "__get__" = some (some g)) (ht : takesIn K a = some true) : findObj K C od name = some (.bind g a) := by
  obtain ⟨cd, e, _⟩ := any_some hc
  unfold findObj
  simp only [e, ha, hg, ht, Option.bind_some]
/-- e.__class__, whatever e has of its own -/
theorem class_of_exc {od : Option Obj} {Q : Option Value → Shared → Prop} (c : L2.ExcC K D) (X : K.In s.heap) (I : InstAt s.heap x ox D od) (h : Q (some (.ref D)) { s with toks := s.toks + 1 }) : wpAny (model prog w) A (getAttr? (.ref x) "__class__") Q E s := by
  have hf := found_class (od := od) c.hd c.ha c.hn c.ht
  obtain ⟨hp, g, d, t, os⟩ := s
  have L0 := I.type (M := model prog w)
  have L3 := looks_find (M := model prog w) X I hf
  have sub : Looks (model prog w) hp (isInstance (.ref x) (.type "BaseException")) true := L0.andThen (looks_subIn X c.hs)
  unfold getAttr? getAttrBy? getAttrBy
  refine wpAny_bind (wpAny_mkText (wpAny_bind (wpAny_attempt (wpAny_holding (wpAny_bind (L0.at (wpAny_bind ((looks_findIn (M := model prog w) X c.hg).at ?_))))))))
  show wpAny _ _ (if (onTheHeap (Value.ref D) && Value.builtin "BaseException.__getattribute__" == Value.builtin "object.__getattribute__") = true then _ else _) _ _ _
  rw [show (onTheHeap (Value.ref D) && Value.builtin "BaseException.__getattribute__" == Value.builtin "object.__getattribute__") = false by rw [show (Value.builtin "BaseException.__getattribute__" == Value.builtin "object.__getattribute__") = false by decide +kernel]; rfl, if_neg Bool.false_ne_true]
  unfold getAttrByItsOwn hookBefore
  refine wpAny_bind ?_
  rw [if_pos (show onTheHeap (Value.ref D) = true from rfl)]
  refine (looks_findIn (M := model prog w) X c.hk).at (wpAny_bind (wpAny_attempt (wpAny_holding ?_)))
  unfold callGetattribute
  rw [show (false && onTheHeap (Value.builtin "BaseException.__getattribute__")) = false from rfl, if_neg Bool.false_ne_true]
  unfold boundAndCalled
  rw [PySem.F.excAttr_ValueError.ga.bind (.ref x)]
  refine wpAny_bind (wpAny_pure ?_)
  show wpAny _ _ (call (.builtin "BaseException.__getattribute__") [.ref x, .str "__class__" t]) _ _ _
  refine wpAny_call (codeAny_call_builtin PySem.F.excAttr_ValueError.ga.plain PySem.F.entry_bexc_ga ?_)
  refine @check_slot (model prog w) _ _ ⟨hp, g, d, t + 1, os⟩ "BaseException.__getattribute__" "BaseException" "__getattribute__" (.ref x) [.str "__class__" t] [] _ (by decide +kernel) (by decide +kernel) sub (PySem.F.args_bexc_ga (.ref x) (.str "__class__" t)) ?_
  unfold Builtin.«object.__getattribute__»
  refine wpAny_bind (wpAny_of_eq (a := ((Value.ref x : Value), [Value.str "__class__" t])) (by first | rfl | (simp only [slotArgs]; rfl)) ?_)
  refine wpAny_bind (wpAny_pure (wpAny_bind (L0.at (wpAny_bind (L3.at ?_)))))
  show wpAny _ _ (holding [Value.builtin "object.__class__"] (call (.builtin "getset_descriptor.__get__") [.builtin "object.__class__", .ref x, .ref D]) >>= ret) _ _ _
  refine wpAny_bind (wpAny_holding (wpAny_call (class_get (s := ⟨hp, g, d, t + 1, os⟩) (ox := ox) (od := od) X I c.hm ?_)))
  refine wpAny_pure ?_
  show wpAny _ _ (handedOut (.ref D)) _ _ _
  rw [handedOut_of (v := .ref D) rfl]
  first
    | exact wpAny_pure (wpAny_pure h)
    | exact wpAny_pure h
    | exact wpAny_pure (wpAny_bind (wpAny_pure (wpAny_pure h)))
theorem kit_exc {od : Option Obj} (c : L2.ExcC K D) : KitX K (.ref x) (.ref D) (fun h => InstAt h x ox D od) where
  ty := fun _ _ _ I => I.type
  it := fun _ _ X _ => by
    obtain ⟨cd, e, _⟩ := any_some c.hd
    intro A' Q' E' s' k q
    unfold clsIn at e
    split at e
    · rename_i c' d' cd' sl' ho
      unfold isType loadHead
      exact wpAny_bind (wpAny_loadPart (k _ _ (X _ _ ho)) (wpAny_pure q))
    · cases e
  ne := (handS_kitx_exc (x := x) (ox := ox) c.hg c.hk c.hs c.hd c.ha c.hn c.ht c.hm).ne
  ca := fun X I k => class_of_exc c X I k
end
section
open PySem PySem.Spec PyProof.Rows L2
/-- isinstance(e, c), e the exception that the suite holds, with a dict of its own -/
def rIsX (K : PySem.W.Frag) (D a : Addr) (cls : Value) (d : Option Addr) : List V → Hp → VK → Prop := fun xs H Q => cls = .ref D ∧ (∃ dd fs, d = some dd ∧ H dd = some (.xd fs)) ∧ ∃ (c : V) (cv : Value) (b : Bool), xs = [.ref a, c] ∧ (∀ u, RelV c u → u = cv) ∧ PySem.W.kitOne K (.ref D) cv = some b ∧ Q (.bl b) H
theorem call_isX {X : Cx} {a D : Addr} {oe : Obj} {cls : Value} {d : Option Addr} {pn : List (Addr × Obj)} (C : ExcC X.K D) (hz : Zc cls d oe) (hf : ∃ vs, oe.data = .fields vs) : CallR (X.suite a ((a, oe) :: pn)) (.builtin "isinstance") (rIsX X.K D a cls d) := by
  intro pins s σ H xs us Q I r h
  obtain ⟨ec, ⟨dd, fs, ed, hdd⟩, c, cv, b, rfl, hcv, e, q⟩ := h
  subst ec
  subst ed
  cases r with
  | cons rx rr =>
    cases rr with
    | cons rt rr =>
      cases rr
      cases rx
      have ecv := hcv _ rt
      subst ecv
      obtain ⟨hget, _⟩ := I.pin (a, oe) (List.mem_append_left _ List.mem_cons_self)
      obtain ⟨vs, hv⟩ := hf
      have hx : ObjOk X.prog X.w H s.heap dd (.xd fs) := I.hok dd _ hdd
      obtain ⟨mA, hns, _⟩ := hx
      obtain ⟨od, ho, _⟩ := lookIn_ns hns
      have J : PySem.W.InstAt s.heap a oe D (some od) := ⟨hget, hz.1, by unfold PySem.W.notCls; rw [hv] <;> rfl, by rw [hz.2]; exact ho⟩
      exact PySem.W.kia_one (kit_exc C) I.kIn J e (fun z => nomatch z) fun tk => ⟨.bl b, H, I.kept (t' := tk) fun _ _ z => z, rfl, q⟩
/-- x is not True (or False), x a bool or None -/
theorem op_notB {X : Cx} : OpR X (compareOp .IsNot) (fun x y H Q => ∃ c, y = .bl c ∧ ((∃ b, x = .bl b ∧ Q (.bl (!(b == c))) H) ∨ (x = .non ∧ Q (.bl true) H))) := by
  intro pins s σ H x y v u Q I rx ry h
  obtain ⟨c, rfl, h⟩ := h
  cases ry
  show wpAny _ _ ((isSame v (Value.bool c)) >>= fun z => pure (Value.bool (!z))) _ _ s
  rcases h with ⟨b, rfl, q⟩ | ⟨rfl, q⟩
  · cases rx
    refine wpAny_bind (wpAny_isSame_plain rfl (wpAny_pure ?_))
    have e : (Value.bool b == Value.bool c) = (b == c) := by cases b <;> cases c <;> decide
    rw [e]
    exact fin_bl I q rfl
  · cases rx
    refine wpAny_bind (wpAny_isSame_plain rfl (wpAny_pure ?_))
    have e : (Value.none == Value.bool c) = false := by cases c <;> decide
    rw [e]
    exact fin_bl I q rfl
end
end My

/-! KitM -/
/-! names of a row that is a list or a tuple -/
namespace My
open PySem PySem.Spec PyProof.Rows L2
def gRow (K : PySem.W.Frag) (n : Nat) (t : TGs) : TG := fun v σ H Q => ∃ a xs, v = .ref a ∧ (SqL K H a xs ∨ SqT K H a xs) ∧ xs.length = n ∧ t xs σ H Q
theorem pg_row {X : Cx} {pos : Pos} {es : List Expr} {k : Nat} {t : TGs} {n : Nat} (hc : X.calm = true) (h : PGs X es t)
    (hn : (assignEach es X.env).length = n := by rfl) (hst : (assignEach es X.env).findIdx? (·.1) = none := by rfl) : PG X (.Tuple es k pos) (gRow X.K n t) := by
  refine ⟨fun pins s σ H v u Q I r hw => ?_⟩
  obtain ⟨a, xs, e1, hq | hq, hl, hw⟩ := hw
  · exact (pg_lst hc h hn hst).run pins s σ H v u Q I r ⟨a, xs, e1, hq, hl, hw⟩
  · exact (pg_tup hc h hn hst).run pins s σ H v u Q I r ⟨a, xs, e1, hq, hl, hw⟩
end My

/-! KitN -/
/-! a written dict of the module, its keys texts -/
namespace My
open PySem PySem.Spec PyProof.Rows L2
structure KT (K : PySem.W.Frag) (w : World) (d : Addr) (kvs : List (Str × V)) : Prop where
  ex : ∃ es n, KDict K w d es n
  val : ∀ z v, kvs.lookup z = some v → ∃ u, PySem.W.nsIn K d z = some (some u) ∧ RelV v u
  no : ∀ z, kvs.lookup z = none → PySem.W.nsIn K d z = some none
section
variable {X : Cx} {d : Addr} {kvs : List (Str × V)}
theorem KT.res {K : PySem.W.Frag} {w : World} (D : KT K w d kvs) (z : Str) : ∃ r, PySem.W.nsIn K d z = some r ∧ r.isSome = (kvs.lookup z).isSome := by
  cases h : kvs.lookup z with
  | none => exact ⟨_, D.no z h, rfl⟩
  | some v => obtain ⟨u, e, _⟩ := D.val z v h; exact ⟨_, e, rfl⟩
theorem KT.dct {K : PySem.W.Frag} {w : World} (D : KT K w d kvs) {z : Str} {v : V} (h : kvs.lookup z = some v) : KDct K w d z v := by
  obtain ⟨es, n, kd⟩ := D.ex
  obtain ⟨u, e, r⟩ := D.val z v h
  exact ⟨es, n, u, kd.at_, kd.lit, e, r⟩
theorem op_in_kt (D : KT X.K X.w d kvs) : OpR X (compareOp .In) (fun x y H Q => ∃ z : Str, x = .str z ∧ y = .ref d ∧ Q (.bl (kvs.lookup z).isSome) H) := by
  intro pins s σ H x y v u Q I rx ry h
  obtain ⟨z, rfl, rfl, q⟩ := h
  obtain ⟨es, n, kd⟩ := D.ex
  obtain ⟨r, e, hr⟩ := D.res z
  exact op_in_kd kd pins s σ H _ _ v u Q I rx ry ⟨z, r, rfl, rfl, e, by rw [hr]; exact q⟩
theorem op_notIn_kt (D : KT X.K X.w d kvs) : OpR X (compareOp .NotIn) (fun x y H Q => ∃ z : Str, x = .str z ∧ y = .ref d ∧ Q (.bl (!(kvs.lookup z).isSome)) H) := by
  intro pins s σ H x y v u Q I rx ry h
  obtain ⟨z, rfl, rfl, q⟩ := h
  obtain ⟨es, n, kd⟩ := D.ex
  obtain ⟨r, e, hr⟩ := D.res z
  exact op_notIn_kd kd pins s σ H _ _ v u Q I rx ry ⟨z, r, rfl, rfl, e, by rw [hr]; exact q⟩
/-- d.get(z) -/
theorem pe_kget {o e : Expr} {td ty : TE} {apos cpos : Pos} (D : KT X.K X.w d kvs) (ho : PE X o td) (he : PE X e ty) (m : M1 X o "get" apos e cpos) :
    PE X (.Call (.Attribute o "get" apos) [e] [] cpos) (fun σ H Q => td σ H fun x H1 => x = .ref d ∧ ty σ H1 fun y H2 => ∃ z : Str, y = .str z ∧ Q ((kvs.lookup z).getD .non) H2) := by
  refine ⟨fun pins s σ H Q I h => ?_⟩
  obtain ⟨es, n, kd⟩ := D.ex
  refine wpAny_Call_method m.base m.few m.line PySem.F.plainAttrs_dict PySem.F.slot_dict_get PySem.F.type_dict_get (thn (ho.run pins s σ H _ I h) fun u s1 ⟨x, H1, I1, rx, ex, q1⟩ => ?_)
  subst ex
  obtain rfl : u = Value.ref d := rx
  refine ⟨kd_type kd I1, fun b q => ?_, ?_⟩
  · cases q
    exact ⟨_, I1.kIn _ _ kd.at_, rfl⟩
  rw [m.trees]
  refine Calls.callWith_builtin rfl (Calls.evalArgs_plain (Calls.spliced_cons (thn (he.run pins s1 σ H1 _ I1 q1) fun iv s2 ⟨y, H2, I2, ry, z, ey, q2⟩ => Calls.spliced_nil ?_)))
  subst ey
  obtain ⟨t, rfl⟩ := (show ∃ t, iv = Value.str z t from ry)
  have hm := PySem.W.mapOf_K (prog := X.prog) (w := X.w) I2.kIn kd.at_ kd.lit
  refine call_meetsIn PySem.F.slot_dict_get (kd_type kd I2) PySem.F.entry_dict_get (PySem.F.args_dict_get_2 _ _) (meets_dict_get (strKind X.prog X.w) d (PySem.strKind_is X.prog X.w z t) kd.low) ⟨_, hm, ?_⟩
  cases hk : kvs.lookup z with
  | none =>
    rw [PySem.W.find_K kd.at_ (D.no z hk)]
    rw [hk] at q2
    exact ⟨.non, H2, I2.tok _, rfl, q2⟩
  | some v =>
    obtain ⟨u0, e0, r0⟩ := D.val z v hk
    rw [PySem.W.find_K kd.at_ e0]
    rw [hk] at q2
    exact ⟨v, H2, I2.tok _, r0, q2⟩
/-- x is True (or False), x a bool or None -/
theorem op_isB {X : Cx} : OpR X (compareOp .Is) (fun x y H Q => ∃ c, y = .bl c ∧ ((∃ b, x = .bl b ∧ Q (.bl (b == c)) H) ∨ (x = .non ∧ Q (.bl false) H))) := by
  intro pins s σ H x y v u Q I rx ry h
  obtain ⟨c, rfl, h⟩ := h
  cases ry
  show wpAny _ _ ((isSame v (Value.bool c)) >>= fun z => pure (Value.bool z)) _ _ s
  rcases h with ⟨b, rfl, q⟩ | ⟨rfl, q⟩
  · cases rx
    refine wpAny_bind (wpAny_isSame_plain rfl (wpAny_pure ?_))
    have e : (Value.bool b == Value.bool c) = (b == c) := by cases b <;> cases c <;> decide
    rw [e]
    exact fin_bl I q rfl
  · cases rx
    refine wpAny_bind (wpAny_isSame_plain rfl (wpAny_pure ?_))
    have e : (Value.none == Value.bool c) = false := by cases c <;> decide
    rw [e]
    exact fin_bl I q rfl
end
end My

/-! M11 -/
/-! forms of guest books: the mathematics -/
namespace My
open PySem L2
def sg (c : Nat) : Str := ⟨#[c]⟩
/-- the signs of a pattern -/
abbrev Str.l (z : Str) : List Nat := z.cps.toList
/-- a register: by its letter or its number; a number: by its letter or itself -/
inductive Rg | l (c : Nat) | n (i : Nat) deriving DecidableEq
def Rg.v : Rg → V | .l c => .str (sg c) | .n i => .int (i : Nat)
/-- the lines of forms -/
inductive Ln
  | get (r : Rg) | num (v : Rg) | here | next | op (o : Op) (i j : Nat) | read (i : Nat) | inp (p : Nat)
  | must (i c : Nat) | write (i j : Nat) | out (p i : Nat) | put (r : Rg) (i : Nat) | goto (i : Nat)
  deriving DecidableEq
def Ln.nm : Ln → Str
  | .get _ => "get" | .num _ => "num" | .here => "here" | .next => "next" | .op o _ _ => o.s | .read _ => "read" | .inp _ => "in"
  | .must _ _ => "must" | .write _ _ => "write" | .out _ _ => "out" | .put _ _ => "put" | .goto _ => "goto"
def Ln.es : Ln → List V
  | .get r => [r.v] | .num v => [v.v] | .here => [] | .next => [] | .op _ i j => [.int (i : Nat), .int (j : Nat)] | .read i => [.int (i : Nat)] | .inp p => [.int (p : Nat)]
  | .must i c => [.int (i : Nat), .int (c : Nat)] | .write i j => [.int (i : Nat), .int (j : Nat)] | .out p i => [.int (p : Nat), .int (i : Nat)] | .put r i => [r.v, .int (i : Nat)] | .goto i => [.int (i : Nat)]
def Ln.vals (l : Ln) : List V := .str l.nm :: l.es
def Ln.isV : Ln → Bool | .must _ _ => false | .write _ _ => false | .out _ _ => false | .put _ _ => false | .goto _ => false | _ => true
def Ln.isE : Ln → Bool | .write _ _ => true | .inp _ => true | .out _ _ => true | _ => false
def Ln.isG : Ln → Bool | .goto _ => true | _ => false
/-- the numbers of the value lines among the first -/
def valsTo (ls : List Ln) : List Nat := (ls.zipIdx.filter fun q => q.1.isV).map Prod.snd
def regR (r : Nat) (L : List Nat) : Rg → Prop | .l c => c ∈ L ∧ c ∈ [97, 98, 99] | .n i => i < r
def numR (w : Nat) (L : List Nat) : Rg → Prop | .l c => c ∈ L ∧ c ∈ [109, 110] | .n i => i < 2 ^ w
def LnOk (w r : Nat) (L vs : List Nat) : Ln → Prop
  | .get a => regR r L a | .num a => numR w L a | .here => True | .next => True | .op _ i j => i ∈ vs ∧ j ∈ vs | .read i => i ∈ vs | .inp p => p < 6
  | .must i c => i ∈ vs ∧ 12 ≤ c ∧ c < 16 | .write i j => i ∈ vs ∧ j ∈ vs | .out p i => p < 10 ∧ i ∈ vs | .put a i => regR r L a ∧ i ∈ vs | .goto i => i ∈ vs
structure LnsOk (w r : Nat) (L : List Nat) (ls : List Ln) : Prop where
  len : ls.length ≤ 12
  ok : ∀ (i : Nat) (l : Ln), ls[i]? = some l → LnOk w r L (valsTo (ls.take i)) l
  eff : (ls.filter Ln.isE).length ≤ 1
  gto : (ls.filter Ln.isG).length ≤ 1
/-- the number of the first line of a kind -/
def firstL (p : Ln → Bool) (ls : List Ln) : V := match ls.findIdx? p with | some i => .int (i : Nat) | none => .non
structure FM where
  nm : Str
  ps : List Str
  ls : List Ln
def FM.pl (f : FM) : List (List Nat) := f.ps.map fun z => z.cps.toList
def is01 (c : Nat) : Bool := c == 48 || c == 49
def mskN : List Nat → Nat
  | [] => 0
  | c :: r => (if is01 c = true then 2 ^ r.length else 0) + mskN r
def bitN : List Nat → Nat
  | [] => 0
  | c :: r => (if c = 49 then 2 ^ r.length else 0) + bitN r
theorem mskN_lt : ∀ p : List Nat, mskN p < 2 ^ p.length
  | [] => by simp [mskN]
  | c :: r => by
    have := mskN_lt r
    rw [mskN, List.length_cons, Nat.pow_succ]
    split <;> omega
theorem bitN_lt : ∀ p : List Nat, bitN p < 2 ^ p.length
  | [] => by simp [bitN]
  | c :: r => by
    have := bitN_lt r
    rw [bitN, List.length_cons, Nat.pow_succ]
    split <;> omega
/-- each 0 and 1 of the pattern is that bit -/
def fitB : List Nat → Nat → Bool
  | [], _ => true
  | s :: r, c => (!(s == 48 && c.testBit r.length)) && (!(s == 49 && !c.testBit r.length)) && fitB r c
theorem fit_mask : ∀ (p : List Nat) (c : Nat), (c &&& mskN p = bitN p) ↔ fitB p c = true
  | [], c => by simp [mskN, bitN, fitB]
  | s :: r, c => by
    have ih := fit_mask r c
    have hm := mskN_lt r
    have hb := bitN_lt r
    have em : mskN (s :: r) = 2 ^ r.length * (if is01 s = true then 1 else 0) + mskN r := by rw [mskN]; split <;> simp
    have eb : bitN (s :: r) = 2 ^ r.length * (if s = 49 then 1 else 0) + bitN r := by rw [bitN]; split <;> simp
    rw [fitB, Bool.and_eq_true, Bool.and_eq_true, ← ih]
    constructor
    · intro h
      have ht : ∀ i, (c.testBit i && (mskN (s :: r)).testBit i) = (bitN (s :: r)).testBit i := fun i => by rw [← Nat.testBit_and, h]
      have low : ∀ i, i < r.length → (c.testBit i && (mskN r).testBit i) = (bitN r).testBit i := fun i hi => by
        have := ht i
        rw [em, eb, Nat.testBit_two_pow_mul_add _ hm, Nat.testBit_two_pow_mul_add _ hb, if_pos hi, if_pos hi] at this
        exact this
      have top := ht r.length
      rw [em, eb, Nat.testBit_two_pow_mul_add _ hm, Nat.testBit_two_pow_mul_add _ hb, if_neg (Nat.lt_irrefl _), if_neg (Nat.lt_irrefl _), Nat.sub_self] at top
      refine ⟨?_, Nat.eq_of_testBit_eq fun i => ?_⟩
      · by_cases h0 : s = 48
        · subst h0; simp [is01] at top ⊢; simp [top]
        by_cases h1 : s = 49
        · subst h1; simp [is01] at top ⊢; simp [top]
        simp [h0, h1]
      · rw [Nat.testBit_and]
        by_cases hi : i < r.length
        · exact low i hi
        · have e1 := Nat.testBit_lt_two_pow (Nat.lt_of_lt_of_le hm (Nat.pow_le_pow_right (by decide) (Nat.le_of_not_lt hi)))
          have e2 := Nat.testBit_lt_two_pow (Nat.lt_of_lt_of_le hb (Nat.pow_le_pow_right (by decide) (Nat.le_of_not_lt hi)))
          rw [e1, e2, Bool.and_false]
    · rintro ⟨⟨h1, h2⟩, h⟩
      refine Nat.eq_of_testBit_eq fun i => ?_
      rw [Nat.testBit_and, em, eb, Nat.testBit_two_pow_mul_add _ hm, Nat.testBit_two_pow_mul_add _ hb]
      by_cases hi : i < r.length
      · rw [if_pos hi, if_pos hi, ← Nat.testBit_and, h]
      · rw [if_neg hi, if_neg hi]
        by_cases he : i = r.length
        · subst he
          rw [Nat.sub_self]
          by_cases h0 : s = 48
          · subst h0; simp [is01] at h1 ⊢; exact h1
          by_cases h1' : s = 49
          · subst h1'; simp [is01] at h2 ⊢; exact h2
          simp [is01, h0, h1']
        · have z : ∀ b : Bool, (if b = true then (1 : Nat) else 0).testBit (i - r.length) = false := fun b => Nat.testBit_lt_two_pow (by
            have : 1 ≤ i - r.length := by omega
            have := Nat.pow_le_pow_right (n := 2) (by decide) this
            cases b <;> simp <;> omega)
          rw [z (is01 s)]
          have z2 := z (decide (s = 49))
          simp only [decide_eq_true_eq] at z2
          rw [z2, Bool.and_false]
def mayB (ps : List (List Nat)) (cs : List Nat) : Bool := (ps.zip cs).all fun q => fitB q.1 q.2
/-- signs with bits, the highest first -/
def bitsOf : List Nat → Nat → List (Nat × Nat)
  | [], _ => []
  | s :: r, c => (s, c / 2 ^ r.length % 2) :: bitsOf r c
def allBits (ps : List (List Nat)) (cs : List Nat) : List (Nat × Nat) := ((ps.zip cs).map fun q => bitsOf q.1 q.2).flatten
def numStep (l : Nat) (a : Nat) (q : Nat × Nat) : Nat := if q.1 = l then a * 2 + q.2 else a
def numL (l : Nat) (bs : List (Nat × Nat)) : Nat := bs.foldl (numStep l) 0
def lettersN : List Nat := [97, 98, 99, 109, 110]
def lettersM (ps : List (List Nat)) : List (Nat × Nat) := (lettersN.filter fun c => decide (c ∈ ps.flatten)).map fun c => (c, ps.flatten.count c)
def numsM (ps : List (List Nat)) (cs : List Nat) : List Nat := (lettersM ps).map fun q => numL q.1 (allBits ps cs)
def formAt (F : List FM) (l : List Nat) : Option FM := F.find? fun f => f.ps.length == l.length && mayB f.pl l
def goesM (F : List FM) (l : List Nat) : Bool := F.any fun f => decide (l.length < f.ps.length) && mayB f.pl l
/-- decoding from n cells on, at most k further -/
def decM (F : List FM) (ds : List Nat) : Nat → Nat → Option FM × Nat
  | n, 0 => (none, n)
  | n, k + 1 => match formAt F (ds.take (n + 1)) with
    | some f => (some f, n + 1)
    | none => if goesM F (ds.take (n + 1)) then decM F ds (n + 1) k else (none, n + 1)
end My

/-! HL -/
/-! helpers -/
namespace My
open PySem L2
theorem same_new {H : Hp} {p : Addr} {o : HO} (hp : H p = none) : Same H (upd H p o) := fun b u e => by rw [upd_ne (ne_of_none e hp)]; exact e
/-- a way by a Bool -/
theorem iteB {c : Bool} {A B : Prop} (h1 : c = true → A) (h2 : c = false → B) : if c = true then A else B := by
  cases c
  · rw [if_neg (fun z => by cases z)]; exact h2 rfl
  · rw [if_pos rfl]; exact h1 rfl
theorem iteBB {Q : V → Hp → Prop} {H : Hp} {c : Bool} (k : Q (.bl c) H) : if c = true then Q (.bl true) H else Q (.bl false) H := by
  cases c
  · rw [if_neg (fun z => by cases z)]; exact k
  · rw [if_pos rfl]; exact k
end My
namespace My
open PySem L2
theorem app_l (x y : Str) : (x ++ y).cps.toList = x.cps.toList ++ y.cps.toList := by
  show (x.cps ++ y.cps).toList = _
  simp
theorem sjoin_l : ∀ ys : List Str, (Str.join ("" : Str) ys).cps.toList = (ys.map fun z => z.cps.toList).flatten
  | [] => rfl
  | [x] => by simp [Str.join]
  | x :: y :: r => by
    have ih := sjoin_l (y :: r)
    show (x ++ ("" : Str) ++ Str.join "" (y :: r)).cps.toList = _
    rw [app_l, app_l, ih]
    have e : ("" : Str).cps.toList = [] := by decide
    rw [e]
    simp
theorem join_l (ys : List Str) : (Txt.join ("" : Str) ys).cps.toList = (ys.map fun z => z.cps.toList).flatten := by
  have : Txt.join ("" : Str) ys = Str.join "" ys := StrLaws.glued_eq_join _ _
  rw [this, sjoin_l]
theorem cnt_count (c : Nat) : ∀ l : List Nat, PyProof.Rows.cnt c l = ((l.count c : Nat) : Int)
  | [] => rfl
  | x :: r => by
    rw [PyProof.Rows.cnt_cons, cnt_count c r, List.count_cons]
    by_cases h : x = c
    · subst h; simp; omega
    · simp [h]
theorem count_l (z : Str) (c : Nat) : Txt.count z ⟨#[c]⟩ = ((z.cps.toList.count c : Nat) : Int) := by
  rw [PyProof.Rows.count_cnt, cnt_count]
/-- objects one by one -/
def Refs {α : Type} (H : Hp) (ts : List V) (xs : List α) (R : Hp → Addr → α → Prop) : Prop := ts.length = xs.length ∧ ∀ (i : Nat) (x : α), xs[i]? = some x → ∃ u, ts[i]? = some (V.ref u) ∧ R H u x
theorem Refs.nil {α : Type} {H : Hp} {R : Hp → Addr → α → Prop} : Refs H [] ([] : List α) R := ⟨rfl, fun _ _ h => by simp at h⟩
theorem Refs.map {α : Type} {H H' : Hp} {ts : List V} {xs : List α} {R R' : Hp → Addr → α → Prop} (h : Refs H ts xs R) (m : ∀ u x, x ∈ xs → R H u x → R' H' u x) : Refs H' ts xs R' :=
  ⟨h.1, fun i x e => let ⟨u, e1, r⟩ := h.2 i x e; ⟨u, e1, m u x (List.mem_of_getElem? e) r⟩⟩
theorem Refs.snoc {α : Type} {H : Hp} {ts : List V} {xs : List α} {R : Hp → Addr → α → Prop} {u : Addr} {x : α} (h : Refs H ts xs R) (r : R H u x) : Refs H (ts ++ [V.ref u]) (xs ++ [x]) R := by
  refine ⟨by simp [h.1], fun i y e => ?_⟩
  by_cases hi : i < xs.length
  · rw [List.getElem?_append_left hi] at e
    rw [List.getElem?_append_left (by rw [h.1]; exact hi)]
    exact h.2 i y e
  · have hi2 : i = xs.length := by
      have := (List.getElem?_eq_some_iff.mp e).1
      simp at this; omega
    subst hi2
    have : x = y := by simpa using e
    subst this
    exact ⟨u, by rw [← h.1]; simp, r⟩
theorem Refs.at {α : Type} {H : Hp} {ts : List V} {xs : List α} {R : Hp → Addr → α → Prop} (h : Refs H ts xs R) {i : Nat} (hi : i < xs.length) : ∃ u x, xs[i]? = some x ∧ ts[i]? = some (V.ref u) ∧ R H u x := by
  obtain ⟨u, e, r⟩ := h.2 i xs[i] (List.getElem?_eq_getElem hi)
  exact ⟨u, _, List.getElem?_eq_getElem hi, e, r⟩
def LetAt (H : Hp) (u : Addr) (q : Nat × Nat) : Prop := H u = some (.tup [.str (sg q.1), .int (q.2 : Nat)])
def LettersAt (H : Hp) (t : Addr) (L : List (Nat × Nat)) : Prop := ∃ ts, H t = some (.tup ts) ∧ Refs H ts L LetAt
theorem LettersAt.news {H H' : Hp} {t : Addr} {L : List (Nat × Nat)} (h : LettersAt H t L) (s : Same H H') : LettersAt H' t L := by
  obtain ⟨ts, h1, h2⟩ := h
  exact ⟨ts, s _ _ h1, h2.map fun u x _ r => s _ _ r⟩
/-- lengths of texts -/
def lens (ps : List Str) : Nat := (ps.map (·.length)).sum
end My
namespace My
open PySem L2
def selS (P : Nat → Bool) (r : List Nat) : Nat → Nat
  | 0 => 0
  | i + 1 => selS P r i + if P (r.getD i 0) = true then 2 ^ i else 0
theorem selS_app (P : Nat → Bool) (a b : List Nat) : ∀ i, i ≤ a.length → selS P (a ++ b) i = selS P a i
  | 0, _ => rfl
  | i + 1, h => by
    rw [selS, selS, selS_app P a b i (by omega)]
    have : (a ++ b).getD i 0 = a.getD i 0 := by
      rw [List.getD_eq_getElem?_getD, List.getD_eq_getElem?_getD, List.getElem?_append_left (by omega)]
    rw [this]
theorem selS_msk : ∀ p : List Nat, selS is01 p.reverse p.length = mskN p
  | [] => rfl
  | c :: r => by
    have ih := selS_msk r
    rw [List.reverse_cons, List.length_cons, selS, selS_app _ _ _ _ (by simp), ih]
    have : (r.reverse ++ [c]).getD r.length 0 = c := by
      rw [List.getD_eq_getElem?_getD, List.getElem?_append_right (by simp)]; simp
    rw [this, mskN]
    omega
theorem selS_bit : ∀ p : List Nat, selS (fun c => c == 49) p.reverse p.length = bitN p
  | [] => rfl
  | c :: r => by
    have ih := selS_bit r
    rw [List.reverse_cons, List.length_cons, selS, selS_app _ _ _ _ (by simp), ih]
    have : (r.reverse ++ [c]).getD r.length 0 = c := by
      rw [List.getD_eq_getElem?_getD, List.getElem?_append_right (by simp)]; simp
    rw [this, bitN]
    by_cases h : c = 49
    · simp [h]; omega
    · simp [h]
theorem in01 (c : Nat) : decide (c ∈ ("01" : Str).cps.toList) = is01 c := by
  have e : ("01" : Str).cps.toList = [48, 49] := by decide
  rw [e]
  unfold is01
  by_cases h : c = 48
  · simp [h]
  · by_cases h1 : c = 49
    · simp [h1]
    · simp [h, h1]
theorem str1_inj {c d : Nat} : (V.str ⟨#[c]⟩ = V.str ⟨#[d]⟩) ↔ c = d := by
  constructor
  · intro h
    injection h with h
    injection h with h
    have := congrArg (fun a : Array Nat => a.toList) h
    simpa using this
  · intro h; rw [h]
theorem eqSg {c d : Nat} {z : Str} (hz : z = ⟨#[d]⟩) : decide (V.str ⟨#[c]⟩ = V.str z) = (c == d) := by
  subst hz
  by_cases h : c = d
  · subst h; simp
  · have : ¬ (V.str ⟨#[c]⟩ = V.str ⟨#[d]⟩) := fun z => h (str1_inj.mp z)
    simp [this, h]
end My
namespace My
open PySem L2
theorem smallL (c : Nat) (h : 97 ≤ c ∧ c ≤ 122) : decide (c ∈ ("abcdefghijklmnopqrstuvwxyz" : Str).cps.toList) = true := by
  have e : ("abcdefghijklmnopqrstuvwxyz" : Str).cps.toList = (List.range 26).map (97 + ·) := by decide
  rw [e, decide_eq_true_eq, List.mem_map]
  exact ⟨c - 97, by rw [List.mem_range]; omega, by omega⟩
def okS (c : Nat) : Bool := decide (c ∈ [48, 49, 97, 98, 99, 109, 110])
theorem inOk (c : Nat) : decide (c ∈ ("01abcmn" : Str).cps.toList) = okS c := by
  have e : ("01abcmn" : Str).cps.toList = [48, 49, 97, 98, 99, 109, 110] := by decide
  rw [e]; rfl
def isReg (c : Nat) : Bool := decide (c ∈ [97, 98, 99])
theorem inReg (c : Nat) : decide (c ∈ ("abc" : Str).cps.toList) = isReg c := by
  have e : ("abc" : Str).cps.toList = [97, 98, 99] := by decide
  rw [e]; rfl
def pls (ps : List Str) : List (List Nat) := ps.map fun z => z.cps.toList
structure PatsOk (w r : Nat) (ps : List Str) : Prop where
  l1 : 1 ≤ ps.length
  l3 : ps.length ≤ 3
  pat : ∀ z ∈ ps, z.length = w ∧ ∀ c ∈ z.cps.toList, okS c = true
  bits : ∀ q ∈ lettersM (pls ps), q.2 ≤ w ∧ (isReg q.1 = true → 2 ^ q.2 ≤ r)
def nameOk (z : Str) : Prop := 1 ≤ z.length ∧ z.length ≤ 8 ∧ ∀ c ∈ z.cps.toList, 97 ≤ c ∧ c ≤ 122
theorem all_rep {n : Nat} : (List.replicate n true).all id = true := by simp
theorem rep_snoc {n : Nat} : (List.replicate (n + 1) true).map V.bl = (List.replicate n true).map V.bl ++ [V.bl true] := by simp [List.replicate_succ']
theorem lens_le {w : Nat} : ∀ {ps : List Str}, (∀ z ∈ ps, z.length = w) → lens ps = ps.length * w
  | [], _ => by simp [lens]
  | z :: r, h => by
    have ih := lens_le (ps := r) fun y hy => h y (by simp [hy])
    have hz := h z (by simp)
    unfold lens at ih ⊢
    rw [List.map_cons, List.sum_cons, ih, hz, List.length_cons, Nat.succ_mul]; omega
end My
namespace My
open PySem L2
def formF (nm : Str) (pt ln : Addr) (k : Nat) (lt : Addr) (ef gt : V) (fx : Addr) : List (Str × V) := [("name", .str nm), ("patterns", .ref pt), ("lines", .ref ln), ("size", .int (k : Nat)), ("letters", .ref lt), ("effect", ef), ("goto", gt), ("fixed", .ref fx)]
theorem look_form_name (nm : Str) (pt ln : Addr) (k : Nat) (lt : Addr) (ef gt : V) (fx : Addr) : (formF nm pt ln k lt ef gt fx).lookup ("name" : Str) = some (.str nm) := by unfold formF; rw [lk, if_pos rfl]
theorem look_form_patterns (nm : Str) (pt ln : Addr) (k : Nat) (lt : Addr) (ef gt : V) (fx : Addr) : (formF nm pt ln k lt ef gt fx).lookup ("patterns" : Str) = some (.ref pt) := by unfold formF; rw [lk, if_neg (by decide +kernel), lk, if_pos rfl]
theorem look_form_lines (nm : Str) (pt ln : Addr) (k : Nat) (lt : Addr) (ef gt : V) (fx : Addr) : (formF nm pt ln k lt ef gt fx).lookup ("lines" : Str) = some (.ref ln) := by unfold formF; rw [lk, if_neg (by decide +kernel), lk, if_neg (by decide +kernel), lk, if_pos rfl]
theorem look_form_size (nm : Str) (pt ln : Addr) (k : Nat) (lt : Addr) (ef gt : V) (fx : Addr) : (formF nm pt ln k lt ef gt fx).lookup ("size" : Str) = some (.int (k : Nat)) := by unfold formF; rw [lk, if_neg (by decide +kernel), lk, if_neg (by decide +kernel), lk, if_neg (by decide +kernel), lk, if_pos rfl]
theorem look_form_letters (nm : Str) (pt ln : Addr) (k : Nat) (lt : Addr) (ef gt : V) (fx : Addr) : (formF nm pt ln k lt ef gt fx).lookup ("letters" : Str) = some (.ref lt) := by unfold formF; rw [lk, if_neg (by decide +kernel), lk, if_neg (by decide +kernel), lk, if_neg (by decide +kernel), lk, if_neg (by decide +kernel), lk, if_pos rfl]
theorem look_form_effect (nm : Str) (pt ln : Addr) (k : Nat) (lt : Addr) (ef gt : V) (fx : Addr) : (formF nm pt ln k lt ef gt fx).lookup ("effect" : Str) = some (ef) := by unfold formF; rw [lk, if_neg (by decide +kernel), lk, if_neg (by decide +kernel), lk, if_neg (by decide +kernel), lk, if_neg (by decide +kernel), lk, if_neg (by decide +kernel), lk, if_pos rfl]
theorem look_form_goto (nm : Str) (pt ln : Addr) (k : Nat) (lt : Addr) (ef gt : V) (fx : Addr) : (formF nm pt ln k lt ef gt fx).lookup ("goto" : Str) = some (gt) := by unfold formF; rw [lk, if_neg (by decide +kernel), lk, if_neg (by decide +kernel), lk, if_neg (by decide +kernel), lk, if_neg (by decide +kernel), lk, if_neg (by decide +kernel), lk, if_neg (by decide +kernel), lk, if_pos rfl]
theorem look_form_fixed (nm : Str) (pt ln : Addr) (k : Nat) (lt : Addr) (ef gt : V) (fx : Addr) : (formF nm pt ln k lt ef gt fx).lookup ("fixed" : Str) = some (.ref fx) := by unfold formF; rw [lk, if_neg (by decide +kernel), lk, if_neg (by decide +kernel), lk, if_neg (by decide +kernel), lk, if_neg (by decide +kernel), lk, if_neg (by decide +kernel), lk, if_neg (by decide +kernel), lk, if_neg (by decide +kernel), lk, if_pos rfl]
theorem put_form_0 {x0 : V} : putF "name" x0 ([] : List (Str × V)) = [(("name" : Str), x0)] := by rw [putF]
theorem put_form_1 {x0 : V} {x1 : V} : putF "patterns" x1 ([(("name" : Str), x0)] : List (Str × V)) = [(("name" : Str), x0), (("patterns" : Str), x1)] := by rw [putF, if_neg (by decide +kernel), putF]
theorem put_form_2 {x0 : V} {x1 : V} {x2 : V} : putF "lines" x2 ([(("name" : Str), x0), (("patterns" : Str), x1)] : List (Str × V)) = [(("name" : Str), x0), (("patterns" : Str), x1), (("lines" : Str), x2)] := by rw [putF, if_neg (by decide +kernel), putF, if_neg (by decide +kernel), putF]
theorem put_form_3 {x0 : V} {x1 : V} {x2 : V} {x3 : V} : putF "size" x3 ([(("name" : Str), x0), (("patterns" : Str), x1), (("lines" : Str), x2)] : List (Str × V)) = [(("name" : Str), x0), (("patterns" : Str), x1), (("lines" : Str), x2), (("size" : Str), x3)] := by rw [putF, if_neg (by decide +kernel), putF, if_neg (by decide +kernel), putF, if_neg (by decide +kernel), putF]
theorem put_form_4 {x0 : V} {x1 : V} {x2 : V} {x3 : V} {x4 : V} : putF "letters" x4 ([(("name" : Str), x0), (("patterns" : Str), x1), (("lines" : Str), x2), (("size" : Str), x3)] : List (Str × V)) = [(("name" : Str), x0), (("patterns" : Str), x1), (("lines" : Str), x2), (("size" : Str), x3), (("letters" : Str), x4)] := by rw [putF, if_neg (by decide +kernel), putF, if_neg (by decide +kernel), putF, if_neg (by decide +kernel), putF, if_neg (by decide +kernel), putF]
theorem put_form_5 {x0 : V} {x1 : V} {x2 : V} {x3 : V} {x4 : V} {x5 : V} : putF "effect" x5 ([(("name" : Str), x0), (("patterns" : Str), x1), (("lines" : Str), x2), (("size" : Str), x3), (("letters" : Str), x4)] : List (Str × V)) = [(("name" : Str), x0), (("patterns" : Str), x1), (("lines" : Str), x2), (("size" : Str), x3), (("letters" : Str), x4), (("effect" : Str), x5)] := by rw [putF, if_neg (by decide +kernel), putF, if_neg (by decide +kernel), putF, if_neg (by decide +kernel), putF, if_neg (by decide +kernel), putF, if_neg (by decide +kernel), putF]
theorem put_form_6 {x0 : V} {x1 : V} {x2 : V} {x3 : V} {x4 : V} {x5 : V} {x6 : V} : putF "goto" x6 ([(("name" : Str), x0), (("patterns" : Str), x1), (("lines" : Str), x2), (("size" : Str), x3), (("letters" : Str), x4), (("effect" : Str), x5)] : List (Str × V)) = [(("name" : Str), x0), (("patterns" : Str), x1), (("lines" : Str), x2), (("size" : Str), x3), (("letters" : Str), x4), (("effect" : Str), x5), (("goto" : Str), x6)] := by rw [putF, if_neg (by decide +kernel), putF, if_neg (by decide +kernel), putF, if_neg (by decide +kernel), putF, if_neg (by decide +kernel), putF, if_neg (by decide +kernel), putF, if_neg (by decide +kernel), putF]
theorem put_form_7 {x0 : V} {x1 : V} {x2 : V} {x3 : V} {x4 : V} {x5 : V} {x6 : V} {x7 : V} : putF "fixed" x7 ([(("name" : Str), x0), (("patterns" : Str), x1), (("lines" : Str), x2), (("size" : Str), x3), (("letters" : Str), x4), (("effect" : Str), x5), (("goto" : Str), x6)] : List (Str × V)) = [(("name" : Str), x0), (("patterns" : Str), x1), (("lines" : Str), x2), (("size" : Str), x3), (("letters" : Str), x4), (("effect" : Str), x5), (("goto" : Str), x6), (("fixed" : Str), x7)] := by rw [putF, if_neg (by decide +kernel), putF, if_neg (by decide +kernel), putF, if_neg (by decide +kernel), putF, if_neg (by decide +kernel), putF, if_neg (by decide +kernel), putF, if_neg (by decide +kernel), putF, if_neg (by decide +kernel), putF]
def bookF (w r : Nat) (ft nd : Addr) (tx : Str) : List (Str × V) := [("word", .int (w : Nat)), ("registers", .int (r : Nat)), ("forms", .ref ft), ("_named", .ref nd), ("_text", .str tx)]
theorem look_book_word (w r : Nat) (ft nd : Addr) (tx : Str) : (bookF w r ft nd tx).lookup ("word" : Str) = some (.int (w : Nat)) := by unfold bookF; rw [lk, if_pos rfl]
theorem look_book_registers (w r : Nat) (ft nd : Addr) (tx : Str) : (bookF w r ft nd tx).lookup ("registers" : Str) = some (.int (r : Nat)) := by unfold bookF; rw [lk, if_neg (by decide +kernel), lk, if_pos rfl]
theorem look_book_forms (w r : Nat) (ft nd : Addr) (tx : Str) : (bookF w r ft nd tx).lookup ("forms" : Str) = some (.ref ft) := by unfold bookF; rw [lk, if_neg (by decide +kernel), lk, if_neg (by decide +kernel), lk, if_pos rfl]
theorem look_book_named (w r : Nat) (ft nd : Addr) (tx : Str) : (bookF w r ft nd tx).lookup ("_named" : Str) = some (.ref nd) := by unfold bookF; rw [lk, if_neg (by decide +kernel), lk, if_neg (by decide +kernel), lk, if_neg (by decide +kernel), lk, if_pos rfl]
theorem look_book_text (w r : Nat) (ft nd : Addr) (tx : Str) : (bookF w r ft nd tx).lookup ("_text" : Str) = some (.str tx) := by unfold bookF; rw [lk, if_neg (by decide +kernel), lk, if_neg (by decide +kernel), lk, if_neg (by decide +kernel), lk, if_neg (by decide +kernel), lk, if_pos rfl]
theorem put_book_0 {x0 : V} : putF "word" x0 ([] : List (Str × V)) = [(("word" : Str), x0)] := by rw [putF]
theorem put_book_1 {x0 : V} {x1 : V} : putF "registers" x1 ([(("word" : Str), x0)] : List (Str × V)) = [(("word" : Str), x0), (("registers" : Str), x1)] := by rw [putF, if_neg (by decide +kernel), putF]
theorem put_book_2 {x0 : V} {x1 : V} {x2 : V} : putF "forms" x2 ([(("word" : Str), x0), (("registers" : Str), x1)] : List (Str × V)) = [(("word" : Str), x0), (("registers" : Str), x1), (("forms" : Str), x2)] := by rw [putF, if_neg (by decide +kernel), putF, if_neg (by decide +kernel), putF]
theorem put_book_3 {x0 : V} {x1 : V} {x2 : V} {x3 : V} : putF "_named" x3 ([(("word" : Str), x0), (("registers" : Str), x1), (("forms" : Str), x2)] : List (Str × V)) = [(("word" : Str), x0), (("registers" : Str), x1), (("forms" : Str), x2), (("_named" : Str), x3)] := by rw [putF, if_neg (by decide +kernel), putF, if_neg (by decide +kernel), putF, if_neg (by decide +kernel), putF]
theorem put_book_4 {x0 : V} {x1 : V} {x2 : V} {x3 : V} {x4 : V} : putF "_text" x4 ([(("word" : Str), x0), (("registers" : Str), x1), (("forms" : Str), x2), (("_named" : Str), x3)] : List (Str × V)) = [(("word" : Str), x0), (("registers" : Str), x1), (("forms" : Str), x2), (("_named" : Str), x3), (("_text" : Str), x4)] := by rw [putF, if_neg (by decide +kernel), putF, if_neg (by decide +kernel), putF, if_neg (by decide +kernel), putF, if_neg (by decide +kernel), putF]
def FixA (H : Hp) (u : Addr) (z : Str) : Prop := H u = some (.tup [.int (mskN z.cps.toList : Nat), .int (bitN z.cps.toList : Nat)])
def FixAt (H : Hp) (fx : Addr) (ps : List Str) : Prop := ∃ ts, H fx = some (.tup ts) ∧ Refs H ts ps FixA
def LnAt (H : Hp) (u : Addr) (l : Ln) : Prop := H u = some (.tup l.vals)
def LinesAt (H : Hp) (t : Addr) (ls : List Ln) : Prop := ∃ us, H t = some (.tup us) ∧ Refs H us ls LnAt
theorem LinesAt.news {H H' : Hp} {t : Addr} {ls : List Ln} (h : LinesAt H t ls) (s : Same H H') : LinesAt H' t ls := by
  obtain ⟨ts, h1, h2⟩ := h
  exact ⟨ts, s _ _ h1, h2.map fun u q _ r => s _ _ r⟩
structure FormP (C : Addr) (H : Hp) (a : Addr) (f : FM) (dx pt ln lt fx : Addr) : Prop where
  o : H a = some (.ins C dx (formF f.nm pt ln f.ps.length lt (firstL Ln.isE f.ls) (firstL Ln.isG f.ls) fx))
  pt : H pt = some (.tup (f.ps.map V.str))
  ln : LinesAt H ln f.ls
  lt : LettersAt H lt (lettersM (pls f.ps))
  fx : FixAt H fx f.ps
def FormAt (C : Addr) (H : Hp) (a : Addr) (f : FM) : Prop := ∃ dx pt ln lt fx, FormP C H a f dx pt ln lt fx
theorem FixAt.news {H H' : Hp} {t : Addr} {ps : List Str} (h : FixAt H t ps) (s : Same H H') : FixAt H' t ps := by
  obtain ⟨ts, h1, h2⟩ := h
  exact ⟨ts, s _ _ h1, h2.map fun u q _ r => s _ _ r⟩
theorem FormAt.news {C : Addr} {H H' : Hp} {a : Addr} {f : FM} (h : FormAt C H a f) (s : Same H H') : FormAt C H' a f := by
  obtain ⟨dx, pt, ln, lt, fx, h⟩ := h
  exact ⟨dx, pt, ln, lt, fx, s _ _ h.o, s _ _ h.pt, h.ln.news s, h.lt.news s, h.fx.news s⟩
theorem small_str : ∀ i : Nat, i ≤ 255 → (Str.ofString (toString (i : Int))).length ≤ 4 ∧ (i : Int).natAbs.log2 < 1920 := by decide +kernel
/-! the lines' names and entries -/
theorem Ln.nm_len (l : Ln) : l.nm.length ≤ 5 := by
  cases l with
  | op o i j => cases o <;> exact Nat.le_of_ble_eq_true rfl
  | _ => exact Nat.le_of_ble_eq_true rfl
theorem Ln.es_len (l : Ln) : l.es.length ≤ 2 := by cases l <;> exact Nat.le_of_ble_eq_true rfl
theorem sqT_news {K : PySem.W.Frag} {H H' : Hp} {a : Addr} {xs : List V} (s : Same H H') (h : SqT K H a xs) : SqT K H' a xs := by
  rcases h with h | h
  · refine .inl ?_
    rcases h with h | ⟨o, h⟩
    · exact .inl (s _ _ h)
    · exact .inr ⟨o, s _ _ h⟩
  · exact .inr h
theorem sgV' {a b : Nat} : decide (V.str (sg a) = V.str (sg b)) = decide (a = b) := by
  by_cases h : a = b
  · rw [h]; simp
  · rw [decide_eq_false h, decide_eq_false]
    intro z
    have := V.str.inj z
    unfold sg at this
    simp at this
    exact h this
theorem sg_inj' {a b : Nat} : (Sum.inr (sg a) : Key) = .inr (sg b) ↔ a = b := by
  constructor
  · intro h
    have := Sum.inr.inj h
    unfold sg at this
    simpa using this
  · intro h; rw [h]
theorem sgS (a b : Nat) : decide ((sg a : Str) = sg b) = decide (a = b) := by
  by_cases h : a = b
  · rw [h]; simp
  · rw [decide_eq_false h, decide_eq_false]
    intro z
    unfold sg at z
    simp at z
    exact h z
def natsV (xs : List Nat) : List V := xs.map fun x => V.int (x : Nat)
theorem natsV_len (L : List Nat) : (natsV L).length = L.length := by unfold natsV; rw [List.length_map]
theorem natsV_snoc (L : List Nat) (c : Nat) : natsV L ++ [V.int (c : Nat)] = natsV (L ++ [c]) := by unfold natsV; rw [List.map_append]; rfl
theorem natsV_flat (L : List Nat) : (natsV L).all flatV = true := by unfold natsV; rw [List.all_map]; exact List.all_eq_true.mpr fun _ _ => rfl
theorem inV_mem {x : V} {xs : List V} (h : x ∈ xs) (e : eqV x x = true) : inV x xs = true := List.any_eq_true.mpr ⟨x, h, e⟩
theorem mem_rgV {a b i : Int} (h1 : a ≤ i) (h2 : i < b) : V.int i ∈ rgV a b := by
  unfold rgV
  rw [List.mem_map]
  exact ⟨(i - a).toNat, by rw [List.mem_range]; omega, by congr 1; omega⟩
theorem rgV_flat (a b : Int) : (rgV a b).all flatV = true := by unfold rgV; rw [List.all_map]; exact List.all_eq_true.mpr fun _ _ => rfl
/-- kinds of lines -/
def Ln.kd : Ln → Nat
  | .get _ => 0 | .num _ => 1 | .here => 2 | .next => 3 | .op .add _ _ => 4 | .op .sub _ _ => 5 | .op .and _ _ => 6 | .op .or _ _ => 7 | .op .xor _ _ => 8 | .op .less _ _ => 9 | .op .same _ _ => 10
  | .read _ => 11 | .inp _ => 12 | .must _ _ => 13 | .write _ _ => 14 | .out _ _ => 15 | .put _ _ => 16 | .goto _ => 17
def kdNm : Nat → Str
  | 0 => "get" | 1 => "num" | 2 => "here" | 3 => "next" | 4 => "add" | 5 => "sub" | 6 => "and" | 7 => "or" | 8 => "xor" | 9 => "less" | 10 => "same"
  | 11 => "read" | 12 => "in" | 13 => "must" | 14 => "write" | 15 => "out" | 16 => "put" | _ => "goto"
theorem nm_kd (l : Ln) : l.nm = kdNm l.kd := by
  cases l with
  | op o i j => cases o <;> rfl
  | _ => rfl
theorem kd_lt (l : Ln) : l.kd < 18 := by
  cases l with
  | op o i j => cases o <;> exact Nat.lt_of_sub_pos (Nat.le_of_ble_eq_true rfl)
  | _ => exact Nat.lt_of_sub_pos (Nat.le_of_ble_eq_true rfl)
theorem nm_all {P : Str → Nat → Bool} (h : (List.range 18).all (fun k => P (kdNm k) k) = true) (l : Ln) : P l.nm l.kd = true := by
  rw [nm_kd]
  exact List.all_eq_true.mp h _ (List.mem_range.mpr (kd_lt l))
theorem nm_eff (l : Ln) : decide (l.nm ∈ (["write", "in", "out"] : List Str)) = l.isE := by
  have h := nm_all (P := fun z k => decide (z ∈ (["write", "in", "out"] : List Str)) == (k == 12 || k == 14 || k == 15)) (by decide +kernel) l
  rw [eq_of_beq h]
  cases l with
  | op o i j => cases o <;> rfl
  | _ => rfl
theorem nm_gto (l : Ln) : decide (l.nm ∈ (["goto"] : List Str)) = l.isG := by
  have h := nm_all (P := fun z k => decide (z ∈ (["goto"] : List Str)) == (k == 17)) (by decide +kernel) l
  rw [eq_of_beq h]
  cases l with
  | op o i j => cases o <;> rfl
  | _ => rfl
theorem nm_val (l : Ln) : decide (l.nm ∈ (["get", "num", "here", "next", "add", "sub", "and", "or", "xor", "less", "same", "read", "in"] : List Str)) = l.isV := by
  have h := nm_all (P := fun z k => decide (z ∈ (["get", "num", "here", "next", "add", "sub", "and", "or", "xor", "less", "same", "read", "in"] : List Str)) == decide (k < 13)) (by decide +kernel) l
  rw [eq_of_beq h]
  cases l with
  | op o i j => cases o <;> rfl
  | _ => rfl
theorem ln_at0 (l : Ln) : atI l.vals 0 = some (.str l.nm) := atI_nat (j := 0) rfl
theorem ln_at1 {l : Ln} {v : V} (h : l.es[0]? = some v) : atI l.vals 1 = some v := atI_nat (j := 1) h
theorem ln_at2 {l : Ln} {v : V} (h : l.es[1]? = some v) : atI l.vals 2 = some v := atI_nat (j := 2) h
theorem Ln.vals_len (l : Ln) : l.vals.length = l.es.length + 1 := rfl
end My

/-! A -/
namespace My
open PySem L2
/-! ### the text by places -/
def top (i : Nat) : Stmt := PySem.Challenge.pw_selfwritten_k18_registers_not_named.main.body.getD i (.Pass ⟨0, 0, 0, 0⟩)
abbrev s_BadWords_init : Stmt := inClass (top 4) 0
abbrev s_BadSource_init : Stmt := inClass (top 7) 0
abbrev s_is_int : Stmt := top 13
abbrev s_is_row : Stmt := top 14
abbrev s_is_word : Stmt := top 15
abbrev s_check_int : Stmt := top 16
abbrev s_letters_of : Stmt := top 10
abbrev s_fixed_bits : Stmt := top 11
abbrev s_letters_for : Stmt := top 35
abbrev s_written_line : Stmt := top 28
abbrev s_is_name : Stmt := top 60
abbrev s_first_of : Stmt := top 59
abbrev s_is_pattern : Stmt := top 63
abbrev s_are_patterns : Stmt := top 62
abbrev s_first_wrong : Stmt := top 64
abbrev s_Form_init : Stmt := inClass (top 57) 0
abbrev s_Grammar_init : Stmt := inClass (top 37) 0
abbrev s_checked_forms : Stmt := top 61
abbrev s_written : Stmt := top 65
abbrev s_Book_init : Stmt := inClass (top 58) 0
abbrev s_Grammar_is_line : Stmt := inClass (top 37) 1
abbrev s_Grammar_is_entry : Stmt := inClass (top 37) 2
abbrev s_ones : Stmt := top 17
abbrev s_check_length : Stmt := top 18
abbrev s_check_entries : Stmt := top 19
abbrev s_check_words : Stmt := top 20
abbrev s_op_word : Stmt := top 39
abbrev s_Book_form_named : Stmt := inClass (top 58) 3
abbrev s_form_of : Stmt := top 22
abbrev s_letters_told : Stmt := top 41
abbrev s_Answers_init : Stmt := inClass (top 45) 0
abbrev s_Answers_answer : Stmt := inClass (top 45) 1
abbrev s_answer_at : Stmt := top 46
abbrev s_Doing_init : Stmt := inClass (top 47) 0
abbrev s_Doing_told : Stmt := inClass (top 47) 1
abbrev s_Doing_ask : Stmt := inClass (top 47) 2
abbrev s_Doing_value : Stmt := inClass (top 47) 3
abbrev s_Doing_stopped : Stmt := inClass (top 47) 4
abbrev s_Doing_finished : Stmt := inClass (top 47) 5
abbrev s_handed_over : Stmt := top 48
abbrev s_check_answers : Stmt := top 49
abbrev s_run_code : Stmt := top 50
abbrev s_named : Stmt := top 51
abbrev s_law_draws : Stmt := top 69
abbrev s_law_take : Stmt := top 70
abbrev s_law_word : Stmt := top 71
abbrev s_law_is_int : Stmt := top 72
abbrev s_law_letters : Stmt := top 74
abbrev s_law_patterns : Stmt := top 75
abbrev s_law_numbers_drawn : Stmt := top 77
abbrev s_law_ops : Stmt := top 73
abbrev s_law_is_code : Stmt := top 76
abbrev s_law_line : Stmt := top 78
abbrev s_law_lines : Stmt := top 79
abbrev s_law_touched : Stmt := top 80
abbrev s_law_refused : Stmt := top 81
abbrev s_law_same_run : Stmt := top 82
abbrev s_law_one_word : Stmt := top 83
abbrev s_law : Stmt := top 84
theorem sc_BadWords_init : FnScope ["self", "at"] ["self", "at"] (defScope s_BadWords_init) := ⟨rfl, rfl, rfl, by decide +kernel, rfl, by decide +kernel, by decide +kernel⟩
theorem sc_BadSource_init : FnScope ["self", "number"] ["self", "number"] (defScope s_BadSource_init) := ⟨rfl, rfl, rfl, by decide +kernel, rfl, by decide +kernel, by decide +kernel⟩
theorem sc_is_int : FnScope ["value"] ["value"] (defScope s_is_int) := ⟨rfl, rfl, rfl, by decide +kernel, rfl, by decide +kernel, by decide +kernel⟩
theorem sc_is_row : FnScope ["value"] ["value"] (defScope s_is_row) := ⟨rfl, rfl, rfl, by decide +kernel, rfl, by decide +kernel, by decide +kernel⟩
theorem sc_is_word : FnScope ["value", "width"] ["value", "width"] (defScope s_is_word) := ⟨rfl, rfl, rfl, by decide +kernel, rfl, by decide +kernel, by decide +kernel⟩
theorem sc_check_int : FnScope ["value", "low", "high", "name"] ["value", "low", "high", "name"] (defScope s_check_int) := ⟨rfl, rfl, rfl, by decide +kernel, rfl, by decide +kernel, by decide +kernel⟩
theorem sc_letters_of : FnScope ["patterns", "signs", "letter"] ["patterns"] (defScope s_letters_of) := ⟨rfl, rfl, rfl, by decide +kernel, rfl, by decide +kernel, by decide +kernel⟩
theorem sc_fixed_bits : FnScope ["pattern", "places", "mask", "at", "sign"] ["pattern"] (defScope s_fixed_bits) := ⟨rfl, rfl, rfl, by decide +kernel, rfl, by decide +kernel, by decide +kernel⟩
theorem sc_letters_for : FnScope ["sign"] ["sign"] (defScope s_letters_for) := ⟨rfl, rfl, rfl, by decide +kernel, rfl, by decide +kernel, by decide +kernel⟩
theorem sc_written_line : FnScope ["entries", "entry"] ["entries"] (defScope s_written_line) := ⟨rfl, rfl, rfl, by decide +kernel, rfl, by decide +kernel, by decide +kernel⟩
theorem sc_is_name : FnScope ["name", "sign"] ["name"] (defScope s_is_name) := ⟨rfl, rfl, rfl, by decide +kernel, rfl, by decide +kernel, by decide +kernel⟩
theorem sc_first_of : FnScope ["lines", "names", "number", "line"] ["lines", "names"] (defScope s_first_of) := ⟨rfl, rfl, rfl, by decide +kernel, rfl, by decide +kernel, by decide +kernel⟩
theorem sc_is_pattern : FnScope ["word", "pattern", "sign"] ["word", "pattern"] (defScope s_is_pattern) := ⟨rfl, rfl, rfl, by decide +kernel, rfl, by decide +kernel, by decide +kernel⟩
theorem sc_are_patterns : FnScope ["word", "registers", "patterns", "letter", "bits", "pattern"] ["word", "registers", "patterns"] (defScope s_are_patterns) := ⟨rfl, rfl, rfl, by decide +kernel, rfl, by decide +kernel, by decide +kernel⟩
theorem sc_first_wrong : FnScope ["grammar", "lines", "values", "effects", "gotos", "number", "line"] ["grammar", "lines"] (defScope s_first_wrong) := ⟨rfl, rfl, rfl, by decide +kernel, rfl, by decide +kernel, by decide +kernel⟩
theorem sc_Form_init : FnScope ["self", "name", "patterns", "lines", "pattern"] ["self", "name", "patterns", "lines"] (defScope s_Form_init) := ⟨rfl, rfl, rfl, by decide +kernel, rfl, by decide +kernel, by decide +kernel⟩
theorem sc_Grammar_init : FnScope ["self", "word", "registers", "letters", "own", "letter", "_", "sign", "one"] ["self", "word", "registers", "letters"] (defScope s_Grammar_init) := ⟨rfl, rfl, rfl, by decide +kernel, rfl, by decide +kernel, by decide +kernel⟩
theorem sc_checked_forms : FnScope ["word", "registers", "forms", "made", "entry", "name", "patterns", "lines", "wrong", "form", "line"] ["word", "registers", "forms"] (defScope s_checked_forms) := ⟨rfl, rfl, rfl, by decide +kernel, rfl, by decide +kernel, by decide +kernel⟩
theorem sc_written : FnScope ["book", "rows", "form", "row"] ["book"] (defScope s_written) := ⟨rfl, rfl, rfl, by decide +kernel, rfl, by decide +kernel, by decide +kernel⟩
theorem sc_Book_init : FnScope ["self", "word", "registers", "forms", "form"] ["self", "word", "registers", "forms"] (defScope s_Book_init) := ⟨rfl, rfl, rfl, by decide +kernel, rfl, by decide +kernel, by decide +kernel⟩
theorem sc_Grammar_is_line : FnScope ["self", "line", "values", "signs", "sign", "entry"] ["self", "line", "values"] (defScope s_Grammar_is_line) := ⟨rfl, rfl, rfl, by decide +kernel, rfl, by decide +kernel, by decide +kernel⟩
theorem sc_Grammar_is_entry : FnScope ["self", "sign", "entry", "values"] ["self", "sign", "entry", "values"] (defScope s_Grammar_is_entry) := ⟨rfl, rfl, rfl, by decide +kernel, rfl, by decide +kernel, by decide +kernel⟩
theorem sc_ones : FnScope ["width"] ["width"] (defScope s_ones) := ⟨rfl, rfl, rfl, by decide +kernel, rfl, by decide +kernel, by decide +kernel⟩
theorem sc_check_length : FnScope ["row", "many"] ["row", "many"] (defScope s_check_length) := ⟨rfl, rfl, rfl, by decide +kernel, rfl, by decide +kernel, by decide +kernel⟩
theorem sc_check_entries : FnScope ["row", "most", "at", "entry"] ["row", "most"] (defScope s_check_entries) := ⟨rfl, rfl, rfl, by decide +kernel, rfl, by decide +kernel, by decide +kernel⟩
theorem sc_check_words : FnScope ["row", "width", "many"] ["row", "width", "many"] (defScope s_check_words) := ⟨rfl, rfl, rfl, by decide +kernel, rfl, by decide +kernel, by decide +kernel⟩
theorem sc_op_word : FnScope ["name", "one", "other", "width"] ["name", "one", "other", "width"] (defScope s_op_word) := ⟨rfl, rfl, rfl, by decide +kernel, rfl, by decide +kernel, by decide +kernel⟩
theorem sc_Book_form_named : FnScope ["self", "name"] ["self", "name"] (defScope s_Book_form_named) := ⟨rfl, rfl, rfl, by decide +kernel, rfl, by decide +kernel, by decide +kernel⟩
theorem sc_form_of : FnScope ["book", "instruction", "name", "numbers", "form", "_", "bits", "number"] ["book", "instruction"] (defScope s_form_of) := ⟨rfl, rfl, rfl, by decide +kernel, rfl, by decide +kernel, by decide +kernel⟩
theorem sc_letters_told : FnScope ["form", "numbers", "letter", "_", "number"] ["form", "numbers"] (defScope s_letters_told) := ⟨rfl, rfl, rfl, by decide +kernel, rfl, by decide +kernel, by decide +kernel⟩
theorem sc_Answers_init : FnScope ["self", "answers"] ["self", "answers"] (defScope s_Answers_init) := ⟨rfl, rfl, rfl, by decide +kernel, rfl, by decide +kernel, by decide +kernel⟩
theorem sc_Answers_answer : FnScope ["self", "ask", "at"] ["self", "ask"] (defScope s_Answers_answer) := ⟨rfl, rfl, rfl, by decide +kernel, rfl, by decide +kernel, by decide +kernel⟩
theorem sc_answer_at : FnScope ["answers", "at"] ["answers", "at"] (defScope s_answer_at) := ⟨rfl, rfl, rfl, by decide +kernel, rfl, by decide +kernel, by decide +kernel⟩
theorem sc_Doing_init : FnScope ["self", "book", "instruction", "place", "regs", "name", "numbers"] ["self", "book", "instruction", "place", "regs"] (defScope s_Doing_init) := ⟨rfl, rfl, rfl, by decide +kernel, rfl, by decide +kernel, by decide +kernel⟩
theorem sc_Doing_told : FnScope ["self", "entry"] ["self", "entry"] (defScope s_Doing_told) := ⟨rfl, rfl, rfl, by decide +kernel, rfl, by decide +kernel, by decide +kernel⟩
theorem sc_Doing_ask : FnScope ["self", "line", "number"] ["self", "line"] (defScope s_Doing_ask) := ⟨rfl, rfl, rfl, by decide +kernel, rfl, by decide +kernel, by decide +kernel⟩
theorem sc_Doing_value : FnScope ["self", "line", "name"] ["self", "line"] (defScope s_Doing_value) := ⟨rfl, rfl, rfl, by decide +kernel, rfl, by decide +kernel, by decide +kernel⟩
theorem sc_Doing_stopped : FnScope ["self", "cause"] ["self", "cause"] (defScope s_Doing_stopped) := ⟨rfl, rfl, rfl, by decide +kernel, rfl, by decide +kernel, by decide +kernel⟩
theorem sc_Doing_finished : FnScope ["self", "place", "regs", "line"] ["self"] (defScope s_Doing_finished) := ⟨rfl, rfl, rfl, by decide +kernel, rfl, by decide +kernel, by decide +kernel⟩
theorem sc_handed_over : FnScope ["book", "instruction", "place", "regs", "asker", "doing", "line", "name", "word"] ["book", "instruction", "place", "regs", "asker"] (defScope s_handed_over) := ⟨rfl, rfl, rfl, by decide +kernel, rfl, by decide +kernel, by decide +kernel⟩
theorem sc_check_answers : FnScope ["word", "answers", "at", "answer"] ["word", "answers"] (defScope s_check_answers) := ⟨rfl, rfl, rfl, by decide +kernel, rfl, by decide +kernel, by decide +kernel⟩
theorem sc_run_code : FnScope ["book", "instruction", "place", "regs", "answers", "asker", "handed"] ["book", "instruction", "place", "regs", "answers"] (defScope s_run_code) := ⟨rfl, rfl, rfl, by decide +kernel, rfl, by decide +kernel, by decide +kernel⟩
theorem sc_named : FnScope ["book", "instruction", "form", "told", "entries", "found", "line", "entry"] ["book", "instruction"] (defScope s_named) := ⟨rfl, rfl, rfl, by decide +kernel, rfl, by decide +kernel, by decide +kernel⟩
theorem sc_law_draws : FnScope ["_law_script", "_law_numbers", "_law_at", "_law_cell", "_law_sign", "_law_turn", "_law_mixed"] ["_law_script"] (defScope s_law_draws) := ⟨rfl, rfl, rfl, by decide +kernel, rfl, by decide +kernel, by decide +kernel⟩
theorem sc_law_take : FnScope ["_law_draws_here", "_law_many", "_law_at"] ["_law_draws_here", "_law_many"] (defScope s_law_take) := ⟨rfl, rfl, rfl, by decide +kernel, rfl, by decide +kernel, by decide +kernel⟩
theorem sc_law_word : FnScope ["_law_draws_here", "_law_width", "_law_high", "_law_low", "_law_special"] ["_law_draws_here", "_law_width"] (defScope s_law_word) := ⟨rfl, rfl, rfl, by decide +kernel, rfl, by decide +kernel, by decide +kernel⟩
theorem sc_law_is_int : FnScope ["_law_thing"] ["_law_thing"] (defScope s_law_is_int) := ⟨rfl, rfl, rfl, by decide +kernel, rfl, by decide +kernel, by decide +kernel⟩
theorem sc_law_letters : FnScope ["_law_patterns_here", "_law_found", "_law_letter", "_law_bits", "_law_pattern", "_law_sign"] ["_law_patterns_here"] (defScope s_law_letters) := ⟨rfl, rfl, rfl, by decide +kernel, rfl, by decide +kernel, by decide +kernel⟩
theorem sc_law_patterns : FnScope ["_law_draws_here", "_law_word_here", "_law_registers", "_law_many", "_law_each", "_law_left", "_law_patterns_here", "_law_at", "_law_signs", "_law_place", "_law_sign"] ["_law_draws_here", "_law_word_here", "_law_registers", "_law_many"] (defScope s_law_patterns) := ⟨rfl, rfl, rfl, by decide +kernel, rfl, by decide +kernel, by decide +kernel⟩
theorem sc_law_numbers_drawn : FnScope ["_law_draws_here", "_law_patterns_here", "_law_numbers", "_law_letter", "_law_bits", "_law_kind", "_law_top"] ["_law_draws_here", "_law_patterns_here"] (defScope s_law_numbers_drawn) := ⟨rfl, rfl, rfl, by decide +kernel, rfl, by decide +kernel, by decide +kernel⟩
theorem sc_law_ops : FnScope [] [] (defScope s_law_ops) := ⟨rfl, rfl, rfl, by decide +kernel, rfl, by decide +kernel, by decide +kernel⟩
theorem sc_law_is_code : FnScope ["_law_thing", "_law_code", "_law_at"] ["_law_thing", "_law_code"] (defScope s_law_is_code) := ⟨rfl, rfl, rfl, by decide +kernel, rfl, by decide +kernel, by decide +kernel⟩
theorem sc_law_line : FnScope ["_law_draws_here", "_law_name", "_law_regs", "_law_nums", "_law_values", "_law_word_here", "_law_one", "_law_other"] ["_law_draws_here", "_law_name", "_law_regs", "_law_nums", "_law_values", "_law_word_here"] (defScope s_law_line) := ⟨rfl, rfl, rfl, by decide +kernel, rfl, by decide +kernel, by decide +kernel⟩
theorem sc_law_lines : FnScope ["_law_draws_here", "_law_patterns_here", "_law_registers", "_law_word_here", "_law_many", "_law_reads", "_law_regs", "_law_nums", "_law_letter", "_law_bits", "_law_number", "_law_menu", "_law_lines_here", "_law_values", "_law_effect", "_law_goto", "_law_turn", "_law_name", "_law_line_here"] ["_law_draws_here", "_law_patterns_here", "_law_registers", "_law_word_here", "_law_many", "_law_reads"] (defScope s_law_lines) := ⟨rfl, rfl, rfl, by decide +kernel, rfl, by decide +kernel, by decide +kernel⟩
theorem sc_law_touched : FnScope ["_law_row", "_law_numbers", "_law_known", "_law_letter", "_law_bits", "_law_found", "_law_line_here"] ["_law_row", "_law_numbers"] (defScope s_law_touched) := ⟨rfl, rfl, rfl, by decide +kernel, rfl, by decide +kernel, by decide +kernel⟩
theorem sc_law_refused : FnScope ["_law_book", "_law_thing", "_law_caught", "_law_plain", "error"] ["_law_book", "_law_thing"] (defScope s_law_refused) := ⟨rfl, rfl, rfl, by decide +kernel, rfl, by decide +kernel, by decide +kernel⟩
theorem sc_law_same_run : FnScope ["_law_one", "_law_other", "_law_q", "_law_before", "_law_after", "_law_k"] ["_law_one", "_law_other", "_law_q", "_law_before", "_law_after"] (defScope s_law_same_run) := ⟨rfl, rfl, rfl, by decide +kernel, rfl, by decide +kernel, by decide +kernel⟩
theorem sc_law_one_word : FnScope ["_law_draws_here", "_law_book", "_law_row", "_law_numbers", "_law_word_here", "_law_registers", "_law_touched_here", "_law_told", "_law_place", "_law_regs", "_law_answers", "_law_one", "_law_q", "_law_turn", "_law_changed", "_law_other", "_law_k"] ["_law_draws_here", "_law_book", "_law_row", "_law_numbers", "_law_word_here", "_law_registers"] (defScope s_law_one_word) := ⟨rfl, rfl, rfl, by decide +kernel, rfl, by decide +kernel, by decide +kernel⟩
theorem sc_law : FnScope ["_law_script", "_law_draws_here", "_law_word_here", "_law_registers", "_law_patterns_here", "_law_least", "_law_lines_here", "_law_row", "_law_book", "_law_turn", "_law_numbers", "_law_thing"] ["_law_script"] (defScope s_law) := ⟨rfl, rfl, rfl, by decide +kernel, rfl, by decide +kernel, by decide +kernel⟩
structure Txt (w : World) (K : PySem.W.Frag) (mg : Str → Option Value) where
  f_BadWords_init : Addr
  fd_BadWords_init : FuncData
  F_BadWords_init : Fun K "__init__" "BadWords.__init__" s_BadWords_init f_BadWords_init fd_BadWords_init
  b_BadWords_init : Binds K fd_BadWords_init ["self", "at"] []
  f_BadSource_init : Addr
  fd_BadSource_init : FuncData
  F_BadSource_init : Fun K "__init__" "BadSource.__init__" s_BadSource_init f_BadSource_init fd_BadSource_init
  b_BadSource_init : Binds K fd_BadSource_init ["self", "number"] []
  f_is_int : Addr
  fd_is_int : FuncData
  F_is_int : Fun K "is_int" "is_int" s_is_int f_is_int fd_is_int
  b_is_int : Binds K fd_is_int ["value"] []
  g_is_int : mg "is_int" = some (.ref f_is_int)
  f_is_row : Addr
  fd_is_row : FuncData
  F_is_row : Fun K "is_row" "is_row" s_is_row f_is_row fd_is_row
  b_is_row : Binds K fd_is_row ["value"] []
  g_is_row : mg "is_row" = some (.ref f_is_row)
  f_is_word : Addr
  fd_is_word : FuncData
  F_is_word : Fun K "is_word" "is_word" s_is_word f_is_word fd_is_word
  b_is_word : Binds K fd_is_word ["value", "width"] []
  g_is_word : mg "is_word" = some (.ref f_is_word)
  f_check_int : Addr
  fd_check_int : FuncData
  F_check_int : Fun K "check_int" "check_int" s_check_int f_check_int fd_check_int
  b_check_int : Binds K fd_check_int ["value", "low", "high", "name"] []
  g_check_int : mg "check_int" = some (.ref f_check_int)
  f_letters_of : Addr
  fd_letters_of : FuncData
  F_letters_of : Fun K "letters_of" "letters_of" s_letters_of f_letters_of fd_letters_of
  b_letters_of : Binds K fd_letters_of ["patterns"] []
  g_letters_of : mg "letters_of" = some (.ref f_letters_of)
  f_fixed_bits : Addr
  fd_fixed_bits : FuncData
  F_fixed_bits : Fun K "fixed_bits" "fixed_bits" s_fixed_bits f_fixed_bits fd_fixed_bits
  b_fixed_bits : Binds K fd_fixed_bits ["pattern"] []
  g_fixed_bits : mg "fixed_bits" = some (.ref f_fixed_bits)
  f_letters_for : Addr
  fd_letters_for : FuncData
  F_letters_for : Fun K "letters_for" "letters_for" s_letters_for f_letters_for fd_letters_for
  b_letters_for : Binds K fd_letters_for ["sign"] []
  g_letters_for : mg "letters_for" = some (.ref f_letters_for)
  f_written_line : Addr
  fd_written_line : FuncData
  F_written_line : Fun K "written_line" "written_line" s_written_line f_written_line fd_written_line
  b_written_line : Binds K fd_written_line ["entries"] []
  g_written_line : mg "written_line" = some (.ref f_written_line)
  f_is_name : Addr
  fd_is_name : FuncData
  F_is_name : Fun K "is_name" "is_name" s_is_name f_is_name fd_is_name
  b_is_name : Binds K fd_is_name ["name"] []
  g_is_name : mg "is_name" = some (.ref f_is_name)
  f_first_of : Addr
  fd_first_of : FuncData
  F_first_of : Fun K "_first_of" "_first_of" s_first_of f_first_of fd_first_of
  b_first_of : Binds K fd_first_of ["lines", "names"] []
  g_first_of : mg "_first_of" = some (.ref f_first_of)
  f_is_pattern : Addr
  fd_is_pattern : FuncData
  F_is_pattern : Fun K "_is_pattern" "_is_pattern" s_is_pattern f_is_pattern fd_is_pattern
  b_is_pattern : Binds K fd_is_pattern ["word", "pattern"] []
  g_is_pattern : mg "_is_pattern" = some (.ref f_is_pattern)
  f_are_patterns : Addr
  fd_are_patterns : FuncData
  F_are_patterns : Fun K "_are_patterns" "_are_patterns" s_are_patterns f_are_patterns fd_are_patterns
  b_are_patterns : Binds K fd_are_patterns ["word", "registers", "patterns"] []
  g_are_patterns : mg "_are_patterns" = some (.ref f_are_patterns)
  f_first_wrong : Addr
  fd_first_wrong : FuncData
  F_first_wrong : Fun K "_first_wrong" "_first_wrong" s_first_wrong f_first_wrong fd_first_wrong
  b_first_wrong : Binds K fd_first_wrong ["grammar", "lines"] []
  g_first_wrong : mg "_first_wrong" = some (.ref f_first_wrong)
  f_Form_init : Addr
  fd_Form_init : FuncData
  F_Form_init : Fun K "__init__" "Form.__init__" s_Form_init f_Form_init fd_Form_init
  b_Form_init : Binds K fd_Form_init ["self", "name", "patterns", "lines"] []
  f_Grammar_init : Addr
  fd_Grammar_init : FuncData
  F_Grammar_init : Fun K "__init__" "Grammar.__init__" s_Grammar_init f_Grammar_init fd_Grammar_init
  b_Grammar_init : Binds K fd_Grammar_init ["self", "word", "registers", "letters"] []
  f_checked_forms : Addr
  fd_checked_forms : FuncData
  F_checked_forms : Fun K "_checked_forms" "_checked_forms" s_checked_forms f_checked_forms fd_checked_forms
  b_checked_forms : Binds K fd_checked_forms ["word", "registers", "forms"] []
  g_checked_forms : mg "_checked_forms" = some (.ref f_checked_forms)
  f_written : Addr
  fd_written : FuncData
  F_written : Fun K "_written" "_written" s_written f_written fd_written
  b_written : Binds K fd_written ["book"] []
  g_written : mg "_written" = some (.ref f_written)
  f_Book_init : Addr
  fd_Book_init : FuncData
  F_Book_init : Fun K "__init__" "Book.__init__" s_Book_init f_Book_init fd_Book_init
  b_Book_init : Binds K fd_Book_init ["self", "word", "registers", "forms"] []
  f_Grammar_is_line : Addr
  fd_Grammar_is_line : FuncData
  F_Grammar_is_line : Fun K "is_line" "Grammar.is_line" s_Grammar_is_line f_Grammar_is_line fd_Grammar_is_line
  b_Grammar_is_line : Binds K fd_Grammar_is_line ["self", "line", "values"] []
  f_Grammar_is_entry : Addr
  fd_Grammar_is_entry : FuncData
  F_Grammar_is_entry : Fun K "is_entry" "Grammar.is_entry" s_Grammar_is_entry f_Grammar_is_entry fd_Grammar_is_entry
  b_Grammar_is_entry : Binds K fd_Grammar_is_entry ["self", "sign", "entry", "values"] []
  f_ones : Addr
  fd_ones : FuncData
  F_ones : Fun K "ones" "ones" s_ones f_ones fd_ones
  b_ones : Binds K fd_ones ["width"] []
  g_ones : mg "ones" = some (.ref f_ones)
  f_check_length : Addr
  fd_check_length : FuncData
  F_check_length : Fun K "check_length" "check_length" s_check_length f_check_length fd_check_length
  b_check_length : Binds K fd_check_length ["row", "many"] []
  g_check_length : mg "check_length" = some (.ref f_check_length)
  f_check_entries : Addr
  fd_check_entries : FuncData
  F_check_entries : Fun K "check_entries" "check_entries" s_check_entries f_check_entries fd_check_entries
  b_check_entries : Binds K fd_check_entries ["row", "most"] []
  g_check_entries : mg "check_entries" = some (.ref f_check_entries)
  f_check_words : Addr
  fd_check_words : FuncData
  F_check_words : Fun K "check_words" "check_words" s_check_words f_check_words fd_check_words
  b_check_words : Binds K fd_check_words ["row", "width", "many"] []
  g_check_words : mg "check_words" = some (.ref f_check_words)
  f_op_word : Addr
  fd_op_word : FuncData
  F_op_word : Fun K "op_word" "op_word" s_op_word f_op_word fd_op_word
  b_op_word : Binds K fd_op_word ["name", "one", "other", "width"] []
  g_op_word : mg "op_word" = some (.ref f_op_word)
  f_Book_form_named : Addr
  fd_Book_form_named : FuncData
  F_Book_form_named : Fun K "form_named" "Book.form_named" s_Book_form_named f_Book_form_named fd_Book_form_named
  b_Book_form_named : Binds K fd_Book_form_named ["self", "name"] []
  f_form_of : Addr
  fd_form_of : FuncData
  F_form_of : Fun K "form_of" "form_of" s_form_of f_form_of fd_form_of
  b_form_of : Binds K fd_form_of ["book", "instruction"] []
  g_form_of : mg "form_of" = some (.ref f_form_of)
  f_letters_told : Addr
  fd_letters_told : FuncData
  F_letters_told : Fun K "letters_told" "letters_told" s_letters_told f_letters_told fd_letters_told
  b_letters_told : Binds K fd_letters_told ["form", "numbers"] []
  g_letters_told : mg "letters_told" = some (.ref f_letters_told)
  f_Answers_init : Addr
  fd_Answers_init : FuncData
  F_Answers_init : Fun K "__init__" "Answers.__init__" s_Answers_init f_Answers_init fd_Answers_init
  b_Answers_init : Binds K fd_Answers_init ["self", "answers"] []
  f_Answers_answer : Addr
  fd_Answers_answer : FuncData
  F_Answers_answer : Fun K "answer" "Answers.answer" s_Answers_answer f_Answers_answer fd_Answers_answer
  b_Answers_answer : Binds K fd_Answers_answer ["self", "ask"] []
  f_answer_at : Addr
  fd_answer_at : FuncData
  F_answer_at : Fun K "answer_at" "answer_at" s_answer_at f_answer_at fd_answer_at
  b_answer_at : Binds K fd_answer_at ["answers", "at"] []
  g_answer_at : mg "answer_at" = some (.ref f_answer_at)
  f_Doing_init : Addr
  fd_Doing_init : FuncData
  F_Doing_init : Fun K "__init__" "Doing.__init__" s_Doing_init f_Doing_init fd_Doing_init
  b_Doing_init : Binds K fd_Doing_init ["self", "book", "instruction", "place", "regs"] []
  f_Doing_told : Addr
  fd_Doing_told : FuncData
  F_Doing_told : Fun K "told" "Doing.told" s_Doing_told f_Doing_told fd_Doing_told
  b_Doing_told : Binds K fd_Doing_told ["self", "entry"] []
  f_Doing_ask : Addr
  fd_Doing_ask : FuncData
  F_Doing_ask : Fun K "ask" "Doing.ask" s_Doing_ask f_Doing_ask fd_Doing_ask
  b_Doing_ask : Binds K fd_Doing_ask ["self", "line"] []
  f_Doing_value : Addr
  fd_Doing_value : FuncData
  F_Doing_value : Fun K "value" "Doing.value" s_Doing_value f_Doing_value fd_Doing_value
  b_Doing_value : Binds K fd_Doing_value ["self", "line"] []
  f_Doing_stopped : Addr
  fd_Doing_stopped : FuncData
  F_Doing_stopped : Fun K "stopped" "Doing.stopped" s_Doing_stopped f_Doing_stopped fd_Doing_stopped
  b_Doing_stopped : Binds K fd_Doing_stopped ["self", "cause"] []
  f_Doing_finished : Addr
  fd_Doing_finished : FuncData
  F_Doing_finished : Fun K "finished" "Doing.finished" s_Doing_finished f_Doing_finished fd_Doing_finished
  b_Doing_finished : Binds K fd_Doing_finished ["self"] []
  f_handed_over : Addr
  fd_handed_over : FuncData
  F_handed_over : Fun K "handed_over" "handed_over" s_handed_over f_handed_over fd_handed_over
  b_handed_over : Binds K fd_handed_over ["book", "instruction", "place", "regs", "asker"] []
  g_handed_over : mg "handed_over" = some (.ref f_handed_over)
  f_check_answers : Addr
  fd_check_answers : FuncData
  F_check_answers : Fun K "check_answers" "check_answers" s_check_answers f_check_answers fd_check_answers
  b_check_answers : Binds K fd_check_answers ["word", "answers"] []
  g_check_answers : mg "check_answers" = some (.ref f_check_answers)
  f_run_code : Addr
  fd_run_code : FuncData
  F_run_code : Fun K "run_code" "run_code" s_run_code f_run_code fd_run_code
  b_run_code : Binds K fd_run_code ["book", "instruction", "place", "regs", "answers"] []
  g_run_code : mg "run_code" = some (.ref f_run_code)
  f_named : Addr
  fd_named : FuncData
  F_named : Fun K "named" "named" s_named f_named fd_named
  b_named : Binds K fd_named ["book", "instruction"] []
  g_named : mg "named" = some (.ref f_named)
  f_law_draws : Addr
  fd_law_draws : FuncData
  F_law_draws : Fun K "_law_draws" "_law_draws" s_law_draws f_law_draws fd_law_draws
  b_law_draws : Binds K fd_law_draws ["_law_script"] []
  g_law_draws : mg "_law_draws" = some (.ref f_law_draws)
  f_law_take : Addr
  fd_law_take : FuncData
  F_law_take : Fun K "_law_take" "_law_take" s_law_take f_law_take fd_law_take
  b_law_take : Binds K fd_law_take ["_law_draws_here", "_law_many"] []
  g_law_take : mg "_law_take" = some (.ref f_law_take)
  f_law_word : Addr
  fd_law_word : FuncData
  F_law_word : Fun K "_law_word" "_law_word" s_law_word f_law_word fd_law_word
  b_law_word : Binds K fd_law_word ["_law_draws_here", "_law_width"] []
  g_law_word : mg "_law_word" = some (.ref f_law_word)
  f_law_is_int : Addr
  fd_law_is_int : FuncData
  F_law_is_int : Fun K "_law_is_int" "_law_is_int" s_law_is_int f_law_is_int fd_law_is_int
  b_law_is_int : Binds K fd_law_is_int ["_law_thing"] []
  g_law_is_int : mg "_law_is_int" = some (.ref f_law_is_int)
  f_law_letters : Addr
  fd_law_letters : FuncData
  F_law_letters : Fun K "_law_letters" "_law_letters" s_law_letters f_law_letters fd_law_letters
  b_law_letters : Binds K fd_law_letters ["_law_patterns_here"] []
  g_law_letters : mg "_law_letters" = some (.ref f_law_letters)
  f_law_patterns : Addr
  fd_law_patterns : FuncData
  F_law_patterns : Fun K "_law_patterns" "_law_patterns" s_law_patterns f_law_patterns fd_law_patterns
  b_law_patterns : Binds K fd_law_patterns ["_law_draws_here", "_law_word_here", "_law_registers", "_law_many"] []
  g_law_patterns : mg "_law_patterns" = some (.ref f_law_patterns)
  f_law_numbers_drawn : Addr
  fd_law_numbers_drawn : FuncData
  F_law_numbers_drawn : Fun K "_law_numbers_drawn" "_law_numbers_drawn" s_law_numbers_drawn f_law_numbers_drawn fd_law_numbers_drawn
  b_law_numbers_drawn : Binds K fd_law_numbers_drawn ["_law_draws_here", "_law_patterns_here"] []
  g_law_numbers_drawn : mg "_law_numbers_drawn" = some (.ref f_law_numbers_drawn)
  f_law_ops : Addr
  fd_law_ops : FuncData
  F_law_ops : Fun K "_law_ops" "_law_ops" s_law_ops f_law_ops fd_law_ops
  b_law_ops : Binds K fd_law_ops [] []
  g_law_ops : mg "_law_ops" = some (.ref f_law_ops)
  f_law_is_code : Addr
  fd_law_is_code : FuncData
  F_law_is_code : Fun K "_law_is_code" "_law_is_code" s_law_is_code f_law_is_code fd_law_is_code
  b_law_is_code : Binds K fd_law_is_code ["_law_thing", "_law_code"] []
  g_law_is_code : mg "_law_is_code" = some (.ref f_law_is_code)
  f_law_line : Addr
  fd_law_line : FuncData
  F_law_line : Fun K "_law_line" "_law_line" s_law_line f_law_line fd_law_line
  b_law_line : Binds K fd_law_line ["_law_draws_here", "_law_name", "_law_regs", "_law_nums", "_law_values", "_law_word_here"] []
  g_law_line : mg "_law_line" = some (.ref f_law_line)
  f_law_lines : Addr
  fd_law_lines : FuncData
  F_law_lines : Fun K "_law_lines" "_law_lines" s_law_lines f_law_lines fd_law_lines
  b_law_lines : Binds K fd_law_lines ["_law_draws_here", "_law_patterns_here", "_law_registers", "_law_word_here", "_law_many", "_law_reads"] []
  g_law_lines : mg "_law_lines" = some (.ref f_law_lines)
  f_law_touched : Addr
  fd_law_touched : FuncData
  F_law_touched : Fun K "_law_touched" "_law_touched" s_law_touched f_law_touched fd_law_touched
  b_law_touched : Binds K fd_law_touched ["_law_row", "_law_numbers"] []
  g_law_touched : mg "_law_touched" = some (.ref f_law_touched)
  f_law_refused : Addr
  fd_law_refused : FuncData
  F_law_refused : Fun K "_law_refused" "_law_refused" s_law_refused f_law_refused fd_law_refused
  b_law_refused : Binds K fd_law_refused ["_law_book", "_law_thing"] []
  g_law_refused : mg "_law_refused" = some (.ref f_law_refused)
  f_law_same_run : Addr
  fd_law_same_run : FuncData
  F_law_same_run : Fun K "_law_same_run" "_law_same_run" s_law_same_run f_law_same_run fd_law_same_run
  b_law_same_run : Binds K fd_law_same_run ["_law_one", "_law_other", "_law_q", "_law_before", "_law_after"] []
  g_law_same_run : mg "_law_same_run" = some (.ref f_law_same_run)
  f_law_one_word : Addr
  fd_law_one_word : FuncData
  F_law_one_word : Fun K "_law_one_word" "_law_one_word" s_law_one_word f_law_one_word fd_law_one_word
  b_law_one_word : Binds K fd_law_one_word ["_law_draws_here", "_law_book", "_law_row", "_law_numbers", "_law_word_here", "_law_registers"] []
  g_law_one_word : mg "_law_one_word" = some (.ref f_law_one_word)
  f_law : Addr
  fd_law : FuncData
  F_law : Fun K "law" "law" s_law f_law fd_law
  b_law : Binds K fd_law ["_law_script"] []
  g_law : mg "law" = some (.ref f_law)
  C_Form : Addr
  cl_Form : Cls K C_Form
  g_Form : mg "Form" = some (.ref C_Form)
  M_Form : Mk K C_Form f_Form_init
  nA_Form_name : NoAttr K C_Form "name"
  nA_Form_patterns : NoAttr K C_Form "patterns"
  nA_Form_lines : NoAttr K C_Form "lines"
  nA_Form_size : NoAttr K C_Form "size"
  nA_Form_letters : NoAttr K C_Form "letters"
  nA_Form_effect : NoAttr K C_Form "effect"
  nA_Form_goto : NoAttr K C_Form "goto"
  nA_Form_fixed : NoAttr K C_Form "fixed"
  C_Grammar : Addr
  cl_Grammar : Cls K C_Grammar
  g_Grammar : mg "Grammar" = some (.ref C_Grammar)
  M_Grammar : Mk K C_Grammar f_Grammar_init
  m_Grammar_is_line : Meth K C_Grammar "is_line" f_Grammar_is_line
  m_Grammar_is_entry : Meth K C_Grammar "is_entry" f_Grammar_is_entry
  nA_Grammar_letters : NoAttr K C_Grammar "letters"
  nA_Grammar_numbers : NoAttr K C_Grammar "numbers"
  C_Book : Addr
  cl_Book : Cls K C_Book
  g_Book : mg "Book" = some (.ref C_Book)
  M_Book : Mk K C_Book f_Book_init
  m_Book_form_named : Meth K C_Book "form_named" f_Book_form_named
  nA_Book_word : NoAttr K C_Book "word"
  nA_Book_registers : NoAttr K C_Book "registers"
  nA_Book_forms : NoAttr K C_Book "forms"
  nA_Book__named : NoAttr K C_Book "_named"
  nA_Book__text : NoAttr K C_Book "_text"
  C_Doing : Addr
  cl_Doing : Cls K C_Doing
  g_Doing : mg "Doing" = some (.ref C_Doing)
  M_Doing : Mk K C_Doing f_Doing_init
  m_Doing_told : Meth K C_Doing "told" f_Doing_told
  m_Doing_ask : Meth K C_Doing "ask" f_Doing_ask
  m_Doing_value : Meth K C_Doing "value" f_Doing_value
  m_Doing_stopped : Meth K C_Doing "stopped" f_Doing_stopped
  m_Doing_finished : Meth K C_Doing "finished" f_Doing_finished
  nA_Doing_form : NoAttr K C_Doing "form"
  nA_Doing_word : NoAttr K C_Doing "word"
  nA_Doing_letters : NoAttr K C_Doing "letters"
  nA_Doing_place : NoAttr K C_Doing "place"
  nA_Doing_after : NoAttr K C_Doing "after"
  nA_Doing_regs : NoAttr K C_Doing "regs"
  nA_Doing_words : NoAttr K C_Doing "words"
  C_Answers : Addr
  cl_Answers : Cls K C_Answers
  g_Answers : mg "Answers" = some (.ref C_Answers)
  M_Answers : Mk K C_Answers f_Answers_init
  m_Answers_answer : Meth K C_Answers "answer" f_Answers_answer
  nA_Answers_answers : NoAttr K C_Answers "answers"
  nA_Answers_asks : NoAttr K C_Answers "asks"
  a_ENTRIES : Addr
  c_ENTRIES : mg "ENTRIES" = some (.ref a_ENTRIES)
  kt_ENTRIES : KT K w a_ENTRIES [("get", .str "r"), ("num", .str "v"), ("here", .str ""), ("next", .str ""), ("add", .str "ii"), ("sub", .str "ii"), ("and", .str "ii"), ("or", .str "ii"), ("xor", .str "ii"), ("less", .str "ii"), ("same", .str "ii"), ("read", .str "i"), ("in", .str "p"), ("must", .str "ic"), ("write", .str "ii"), ("out", .str "qi"), ("put", .str "ri"), ("goto", .str "i")]
  a_REFUSED : Addr
  c_REFUSED : mg "REFUSED" = some (.ref a_REFUSED)
  kt_REFUSED : KT K w a_REFUSED [("read", .int 10), ("write", .int 11)]
  t_LETTERS : Tok
  c_LETTERS : mg "LETTERS" = some (.str "abcmn" t_LETTERS)
  a_EFFECTS : Addr
  c_EFFECTS : mg "EFFECTS" = some (.ref a_EFFECTS)
  v_EFFECTS : ∀ H, SqT K H a_EFFECTS [.str "write", .str "in", .str "out"]
  t_REGISTER_LETTERS : Tok
  c_REGISTER_LETTERS : mg "REGISTER_LETTERS" = some (.str "abc" t_REGISTER_LETTERS)
  t_NUMBER_LETTERS : Tok
  c_NUMBER_LETTERS : mg "NUMBER_LETTERS" = some (.str "mn" t_NUMBER_LETTERS)
  t_MOST_FORMS : Tok
  c_MOST_FORMS : mg "MOST_FORMS" = some (.int 32 t_MOST_FORMS)
  t_MOST_PATTERNS : Tok
  c_MOST_PATTERNS : mg "MOST_PATTERNS" = some (.int 3 t_MOST_PATTERNS)
  t_MOST_LINES : Tok
  c_MOST_LINES : mg "MOST_LINES" = some (.int 12 t_MOST_LINES)
  t_SMALL_LETTERS : Tok
  c_SMALL_LETTERS : mg "SMALL_LETTERS" = some (.str "abcdefghijklmnopqrstuvwxyz" t_SMALL_LETTERS)
  a_VALUES : Addr
  c_VALUES : mg "VALUES" = some (.ref a_VALUES)
  v_VALUES : ∀ H, SqT K H a_VALUES [.str "get", .str "num", .str "here", .str "next", .str "add", .str "sub", .str "and", .str "or", .str "xor", .str "less", .str "same", .str "read", .str "in"]
  a_ASKING : Addr
  c_ASKING : mg "ASKING" = some (.ref a_ASKING)
  v_ASKING : ∀ H, SqT K H a_ASKING [.str "read", .str "write", .str "in", .str "out"]
  n_len : mg "len" = none
  n_list : mg "list" = none
  n_tuple : mg "tuple" = none
  n_int : mg "int" = none
  n_str : mg "str" = none
  n_min : mg "min" = none
  n_range : mg "range" = none
  n_isinstance : mg "isinstance" = none
  n_bool : mg "bool" = none
  n_sum : mg "sum" = none
  n_all : mg "all" = none
  n_any : mg "any" = none
  n_enumerate : mg "enumerate" = none
  n_zip : mg "zip" = none
  n_reversed : mg "reversed" = none
  n_sorted : mg "sorted" = none
  C_BadWords : Addr
  g_BadWords : mg "BadWords" = some (.ref C_BadWords)
  o_BadWords : OexE K C_BadWords
  ii_BadWords : PySem.W.findIn K (.ref C_BadWords) "__init__" = some (some (.ref f_BadWords_init))
  it_BadWords : PySem.W.typeIn K (.ref f_BadWords_init) = some (.type "function")
  xc_BadWords : ExcC K C_BadWords
  xf_BadWords : XfC K C_BadWords
  nf_BadWords : PySem.W.findIn K (.ref C_BadWords) "at" = some none
  te_BadWords : PySem.W.exmOne K (.ref C_BadWords) (.ref C_BadWords) = some true
  C_BadSource : Addr
  g_BadSource : mg "BadSource" = some (.ref C_BadSource)
  o_BadSource : OexE K C_BadSource
  ii_BadSource : PySem.W.findIn K (.ref C_BadSource) "__init__" = some (some (.ref f_BadSource_init))
  it_BadSource : PySem.W.typeIn K (.ref f_BadSource_init) = some (.type "function")
  xc_BadSource : ExcC K C_BadSource
  xf_BadSource : XfC K C_BadSource
  nf_BadSource : PySem.W.findIn K (.ref C_BadSource) "number" = some none
  te_BadSource : PySem.W.exmOne K (.ref C_BadSource) (.ref C_BadSource) = some true
  ki_BadSource_BadWords : PySem.W.kitOne K (.ref C_BadSource) (.ref C_BadWords) = some false
end My

/-! B -/
namespace My
open PySem L2
local macro_rules | `(tactic| walk_at "side") => `(tactic| first | with_reducible rfl | assumption | rfl | decide | omega | exact cpow1 (by omega) (by omega) | exact cdiv (by omega) (by omega) | exact two_pos _ | exact SqL.of (by assumption) | exact SqT.of (by assumption) | exact TyX.base (TyOf.int _) | exact TyX.base (TyOf.bl _) | exact TyX.base TyOf.non | exact scal_opt _ _ | exact k_ii | exact k_bi | exact k_ni | exact k_ib | exact k_bb | exact TyX.base (TyOf.lst (by assumption)) | exact k_ll | exact k_lt)
local macro_rules | `(tactic| walk_at "p") => `(tactic| repeat (first | refine And.intro (by walk_at "side") ?_ | apply Exists.intro | refine iteN (by assumption) ?_ | refine iteP (by assumption) ?_ | refine iteN (by decide) ?_ | refine iteP (by decide) ?_))

def plain4 : V → Bool | .int _ => true | .bl _ => true | .non => true | .str _ => true | _ => false
def isI : V → Bool | .int _ => true | _ => false
def isW (w : Nat) : V → Bool | .int i => decide (0 ≤ i ∧ i < 2 ^ w) | _ => false
def tyn : V → String | .int _ => "int" | .bl _ => "bool" | .non => "NoneType" | .str _ => "str" | _ => ""
theorem ty4 {K : PySem.W.Frag} {H : Hp} {x : V} (h : plain4 x = true) : TyX K H x (.type (tyn x)) := by
  cases x <;> (try cases h)
  · exact TyX.base TyOf.non
  · exact TyX.base (TyOf.bl _)
  · exact TyX.base (TyOf.int _)
  · exact TyX.base (TyOf.str _)
theorem kq_int_int : kitB "int" "int" = some true := by decide +kernel
theorem kq_bl_int : kitB "bool" "int" = some true := by decide +kernel
theorem kq_non_int : kitB "NoneType" "int" = some false := by decide +kernel
theorem kq_str_int : kitB "str" "int" = some false := by decide +kernel
theorem kq_int_bool : kitB "int" "bool" = some false := by decide +kernel
theorem kq_bl_bool : kitB "bool" "bool" = some true := by decide +kernel
theorem kq_non_bool : kitB "NoneType" "bool" = some false := by decide +kernel
theorem kq_str_bool : kitB "str" "bool" = some false := by decide +kernel
theorem kq_int_list : kitB "int" "list" = some false := by decide +kernel
theorem kq_bl_list : kitB "bool" "list" = some false := by decide +kernel
theorem kq_non_list : kitB "NoneType" "list" = some false := by decide +kernel
theorem kq_str_list : kitB "str" "list" = some false := by decide +kernel
theorem kq_int_tuple : kitB "int" "tuple" = some false := by decide +kernel
theorem kq_bl_tuple : kitB "bool" "tuple" = some false := by decide +kernel
theorem kq_non_tuple : kitB "NoneType" "tuple" = some false := by decide +kernel
theorem kq_str_tuple : kitB "str" "tuple" = some false := by decide +kernel
theorem kq_int_str : kitB "int" "str" = some false := by decide +kernel
theorem kq_bl_str : kitB "bool" "str" = some false := by decide +kernel
theorem kq_non_str : kitB "NoneType" "str" = some false := by decide +kernel
theorem kq_str_str : kitB "str" "str" = some true := by decide +kernel
def v4_i (x : V) : Bool := match x with | .int _ => true | .bl _ => true | _ => false
theorem k_4i {x : V} (h : plain4 x = true) : kitB (tyn x) "int" = some (v4_i x) := by
  cases x with
  | int i => exact kq_int_int
  | bl b => exact kq_bl_int
  | non => exact kq_non_int
  | str z => exact kq_str_int
  | _ => cases h
def v4_b (x : V) : Bool := match x with | .bl _ => true | _ => false
theorem k_4b {x : V} (h : plain4 x = true) : kitB (tyn x) "bool" = some (v4_b x) := by
  cases x with
  | int i => exact kq_int_bool
  | bl b => exact kq_bl_bool
  | non => exact kq_non_bool
  | str z => exact kq_str_bool
  | _ => cases h
def v4_s (x : V) : Bool := match x with | .str _ => true | _ => false
theorem k_4s {x : V} (h : plain4 x = true) : kitB (tyn x) "str" = some (v4_s x) := by
  cases x with
  | int i => exact kq_int_str
  | bl b => exact kq_bl_str
  | non => exact kq_non_str
  | str z => exact kq_str_str
  | _ => cases h
def v4_l (x : V) : Bool := false
theorem k_4l {x : V} (h : plain4 x = true) : kitB (tyn x) "list" = some (v4_l x) := by
  cases x with
  | int i => exact kq_int_list
  | bl b => exact kq_bl_list
  | non => exact kq_non_list
  | str z => exact kq_str_list
  | _ => cases h
def v4_t (x : V) : Bool := false
theorem k_4t {x : V} (h : plain4 x = true) : kitB (tyn x) "tuple" = some (v4_t x) := by
  cases x with
  | int i => exact kq_int_tuple
  | bl b => exact kq_bl_tuple
  | non => exact kq_non_tuple
  | str z => exact kq_str_tuple
  | _ => cases h
section
variable {P : Program} {w : World} {K : PySem.W.Frag} {mg : Str → Option Value} {base : Heap}
def sp_is_int (_ : Txt w K mg) : Sp := fun vs H Q _ => ∃ x, vs = [x] ∧ plain4 x = true ∧ Q (.bl (isI x)) H
theorem sp_is_int_len {T : Txt w K mg} {vs H Q E} (h : sp_is_int T vs H Q E) : vs.length = 1 := by obtain ⟨_, rfl, _⟩ := h; rfl
theorem ok_is_int (T : Txt w K mg) : FnOk P w K mg base CX0 1 T.f_is_int T.fd_is_int ["value"] (sp_is_int T) := by
  skip
  refine T.F_is_int.ok sc_is_int (fun vs H Q E h => sp_is_int_len h) (fun cdv A outer s H vs Q E hr h => ?_)
  obtain ⟨x, rfl, hp, k⟩ := h
  refine ⟨_, (pss_one (ps_ret (pe_and (pe_callB call_isTy (by rfl) T.n_isinstance (by decide +kernel) (pa_cons (pv 0) (pa_cons (pe_bltn (v := .ty "int") (by rfl) T.n_int (by decide +kernel) rfl) pa_nil))) (pe_one (pe_not (pe_callB call_isTy (by rfl) T.n_isinstance (by decide +kernel) (pa_cons (pv 0) (pa_cons (pe_bltn (v := .ty "bool") (by rfl) T.n_bool (by decide +kernel) rfl) pa_nil)))))))), ?_⟩
  refine ⟨_, rfl, _, _, "int", rfl, ty4 hp, _, k_4i hp, ?_⟩
  cases x with
  | int i => exact ⟨_, rfl, iteP rfl ⟨_, rfl, _, _, _, rfl, ty4 (by rfl), _, k_4b (by rfl), _, rfl, k⟩⟩
  | bl b => exact ⟨_, rfl, iteP rfl ⟨_, rfl, _, _, _, rfl, ty4 (by rfl), _, k_4b (by rfl), _, rfl, k⟩⟩
  | non => exact ⟨_, rfl, iteN (fun z => by cases z) k⟩
  | str z => exact ⟨_, rfl, iteN (fun z => by cases z) k⟩
  | _ => cases hp
def sp_is_row (_ : Txt w K mg) : Sp := fun vs H Q _ => (∃ a xs, vs = [.ref a] ∧ Row H a xs ∧ ∀ H', Same H H' → Q (.bl true) H') ∨ (∃ x, vs = [x] ∧ plain4 x = true ∧ ∀ H', Same H H' → Q (.bl false) H')
theorem sp_is_row_len {T : Txt w K mg} {vs H Q E} (h : sp_is_row T vs H Q E) : vs.length = 1 := by
  rcases h with ⟨_, _, rfl, _⟩ | ⟨_, rfl, _⟩ <;> rfl
theorem ok_is_row (T : Txt w K mg) : FnOk P w K mg base CX0 1 T.f_is_row T.fd_is_row ["value"] (sp_is_row T) := by
  skip
  refine T.F_is_row.ok sc_is_row (fun vs H Q E h => sp_is_row_len h) (fun cdv A outer s H vs Q E hr h => ?_)
  rcases h with ⟨a, xs, rfl, ha, k⟩ | ⟨x, rfl, hx, k⟩
  · refine ⟨_, (pss_one (ps_ret (pe_callB call_isTy2 (by rfl) T.n_isinstance (by decide +kernel) (pa_cons (pv 0) (pa_cons (pe_tup (pa_cons (pe_bltn (v := .ty "list") (by rfl) T.n_list (by decide +kernel) rfl) (pa_cons (pe_bltn (v := .ty "tuple") (by rfl) T.n_tuple (by decide +kernel) rfl) pa_nil))) pa_nil))))), ?_⟩
    refine ⟨_, rfl, by show 2 ≤ sizeLine; decide, fun p hp => ?_⟩
    have s1 := same_new (o := .tup [.ty "list", .ty "tuple"]) hp
    rcases ha with ha | ha
    · exact ⟨_, _, _, _, _, rfl, upd_same, .base (.lst (s1 _ _ ha)), _, _, k_ll, k_lt, k _ s1⟩
    · exact ⟨_, _, _, _, _, rfl, upd_same, .base (.tup (s1 _ _ ha)), _, _, k_tl, k_tt, k _ s1⟩
  · refine ⟨_, (pss_one (ps_ret (pe_callB call_isTy2 (by rfl) T.n_isinstance (by decide +kernel) (pa_cons (pv 0) (pa_cons (pe_tup (pa_cons (pe_bltn (v := .ty "list") (by rfl) T.n_list (by decide +kernel) rfl) (pa_cons (pe_bltn (v := .ty "tuple") (by rfl) T.n_tuple (by decide +kernel) rfl) pa_nil))) pa_nil))))), ?_⟩
    refine ⟨_, rfl, by show 2 ≤ sizeLine; decide, fun p hp => ?_⟩
    have s1 := same_new (o := .tup [.ty "list", .ty "tuple"]) hp
    exact ⟨_, _, _, _, _, rfl, upd_same, ty4 hx, _, _, k_4l hx, k_4t hx, k _ s1⟩
def sp_is_word (_ : Txt w K mg) : Sp := fun vs H Q _ => ∃ x n, vs = [x, .int ((n : Nat) : Int)] ∧ plain4 x = true ∧ n ≤ 64 ∧ Q (.bl (isW n x)) H
theorem sp_is_word_len {T : Txt w K mg} {vs H Q E} (h : sp_is_word T vs H Q E) : vs.length = 2 := by obtain ⟨_, _, rfl, _⟩ := h; rfl
theorem ok_is_word (T : Txt w K mg) : FnOk P w K mg base CX0 2 T.f_is_word T.fd_is_word ["value", "width"] (sp_is_word T) := by
  have G_is_int := ok_is_int (P := P) (w := w) (base := base) T
  refine T.F_is_word.ok sc_is_word (fun vs H Q E h => sp_is_word_len h) (fun cdv A outer s H vs Q E hr h => ?_)
  obtain ⟨x, n, rfl, hp, hn, k⟩ := h
  refine ⟨_, (pss_one (ps_ret (pe_and (pe_call G_is_int hr rfl T.g_is_int T.F_is_int.kp T.b_is_int .nil pass0 (pa_cons (pv 0) pa_nil)) (pe_one (pe_chain op_le op_lt pe_int (pv 0) (pe_op op_shl pe_int (pv 1))))))), ?_⟩
  refine ⟨_, rfl, x, rfl, hp, _, rfl, ?_⟩
  cases x with
  | int i =>
    refine iteP rfl ?_
    by_cases h0 : 0 ≤ i
    · have e2 : isW n (.int i) = decide (i < 2 ^ n) := by unfold isW; simp [h0]
      rw [e2] at k
      have e : (1 : Int) * 2 ^ ((n : Nat) : Int).toNat = 2 ^ n := by rw [Int.one_mul, Int.toNat_natCast]
      rw [← e] at k
      have d0 := dT h0
      walk_at "p"
      exact k
    · have e2 : isW n (.int i) = false := by unfold isW; simp [h0]
      rw [e2] at k
      have d0 := dF h0
      walk_at "p"
      exact k
  | bl b => exact iteN (fun z => by cases z) k
  | non => exact iteN (fun z => by cases z) k
  | str z => exact iteN (fun z => by cases z) k
  | _ => cases hp
def sp_check_int (_ : Txt w K mg) : Sp := fun vs H Q _ => ∃ (v lo hi : Int) (n : V), vs = [.int v, .int lo, .int hi, n] ∧ lo ≤ v ∧ v ≤ hi ∧ Q (.int v) H
theorem sp_check_int_len {T : Txt w K mg} {vs H Q E} (h : sp_check_int T vs H Q E) : vs.length = 4 := by obtain ⟨_, _, _, _, rfl, _⟩ := h; rfl
theorem ok_check_int (T : Txt w K mg) : FnOk P w K mg base CX0 2 T.f_check_int T.fd_check_int ["value", "low", "high", "name"] (sp_check_int T) := by
  have G_is_int := ok_is_int (P := P) (w := w) (base := base) T
  refine T.F_check_int.ok sc_check_int (fun vs H Q E h => sp_check_int_len h) (fun cdv A outer s H vs Q E hr h => ?_)
  obtain ⟨v, lo, hi, n, rfl, h1, h2, k⟩ := h
  refine ⟨_, (pss_cons (ps_if (PW.pt (pw_or (pt_not (pt_val (pe_call G_is_int hr rfl T.g_is_int T.F_is_int.kp T.b_is_int .nil pass0 (pa_cons (pv 0) pa_nil)))) (pw_or1 (pt_cmpR op_lt (pv 0) (pv 1) (nomark _)))))
        (pss_one ps_never)
        pss_nil)
       (pss_cons (ps_if (PW.pt (pw_and (pt_cmpR op_notN (pv 2) pe_non (nomark _)) (pw_and1 (pt_cmpR op_gt (pv 0) (pv 2) (nomark _)))))
        (pss_one ps_never)
        pss_nil)
       (pss_one (ps_ret (pv 0))))), ?_⟩
  have e1 : ¬ decide (v < lo) = true := fun z => absurd (of_decide_eq_true z) (by omega)
  have e2 : ¬ decide (hi < v) = true := fun z => absurd (of_decide_eq_true z) (by omega)
  walk_at "p"
  exact k
end
end My

/-! C -/
namespace My
open PySem L2
local macro_rules | `(tactic| walk_at "side") => `(tactic| first | with_reducible rfl | assumption | rfl | decide | omega | exact cpow1 (by omega) (by omega) | exact cdiv (by omega) (by omega) | exact two_pos _ | exact SqL.of (by assumption) | exact SqT.of (by assumption) | exact TyX.base (TyOf.int _) | exact TyX.base (TyOf.bl _) | exact TyX.base TyOf.non | exact scal_opt _ _ | exact k_ii | exact k_bi | exact k_ni | exact k_ib | exact k_bb | exact TyX.base (TyOf.lst (by assumption)) | exact k_ll | exact k_lt)
local macro_rules | `(tactic| walk_at "p") => `(tactic| repeat (first | refine And.intro (by walk_at "side") ?_ | apply Exists.intro | refine iteN (by assumption) ?_ | refine iteP (by assumption) ?_ | refine iteN (by decide) ?_ | refine iteP (by decide) ?_))

section
variable {P : Program} {w : World} {K : PySem.W.Frag} {mg : Str → Option Value} {base : Heap}
def sp_letters_of (_ : Txt w K mg) : Sp := fun vs H Q _ => ∃ (a : Addr) (ps : List Str), vs = [.ref a] ∧ Row H a (ps.map V.str) ∧ lens ps ≤ 1000 ∧ ∀ (H' : Hp) (t : Addr), Same H H' → H t = none → LettersAt H' t (lettersM (ps.map fun z => z.cps.toList)) → Q (.ref t) H'
theorem sp_letters_of_len {T : Txt w K mg} {vs H Q E} (h : sp_letters_of T vs H Q E) : vs.length = 1 := by obtain ⟨_, _, rfl, _⟩ := h; rfl
theorem ok_letters_of (T : Txt w K mg) : FnOk P w K mg base CX0 1 T.f_letters_of T.fd_letters_of ["patterns"] (sp_letters_of T) := by
  skip
  refine T.F_letters_of.ok sc_letters_of (fun vs H Q E h => sp_letters_of_len h) (fun cdv A outer s H vs Q E hr h => ?_)
  obtain ⟨a, ps, rfl, ha, hl, k⟩ := h
  refine ⟨_, (pss_cons (ps_set (i := 1) sc_letters_of.nd rfl (Or.inr rfl) (pe_join pe_str (pv 0)))
       (pss_one (ps_ret (pe_callTy call_tupleL (by rfl) T.n_tuple (by decide +kernel) (pa_cons (pe_lc (own := [("letter", 2)]) rfl sc_letters_of.nd (pi_str (pe_glob (v := .str "abcmn") rfl T.c_LETTERS ⟨_, rfl⟩)) (blkOk_by (N := ["patterns", "signs", "letter"]) (sc := defScope s_letters_of) (by decide +kernel)) (fun _ _ _ _ _ => by (apply pg_tr; exact pg_name (i := 2) sc_letters_of.nd rfl (Or.inl rfl); (try dsimp only [Cx.blk]) <;> exact rfl)) (fun _ _ _ _ _ => by (apply pts_tr; exact (pts_one (pt_cmpR op_in_sign (pv 2) (pv 1) (by rfl))); (try dsimp only [Cx.blk]) <;> exact rfl)) (fun _ _ _ _ _ => by (apply pe_tr; exact (pe_tup (pa_cons (pv 2) (pa_cons (pe_m1 PySem.F.slot_str_count PySem.F.type_str_count mt_count (pv 1) (pv 2)) pa_nil))); (try dsimp only [Cx.blk]) <;> exact rfl))) pa_nil))))), ?_⟩
  have ha' : SqL K H a (ps.map V.str) ∨ SqT K H a (ps.map V.str) := ha.elim (fun z => .inl (SqL.of z)) fun z => .inr (SqT.of z)
  have e0 : ("" : Str).length = 0 := by decide
  refine ⟨⟨_, rfl⟩, _, rfl, _, a, ps, rfl, rfl, ha', by rw [e0]; unfold lens at hl; omega, ?_⟩
  refine ⟨_, rfl, fun D hD => ?_⟩
  have ez := join_l ps
  have eL : ("abcmn" : Str).cps.toList = lettersN := by decide
  have sD := same_new (o := .lst []) hD
  refine lc_it walk_str (fun i H1 => ∃ ts, Same H H1 ∧ H1 D = some (.lst ts) ∧ ts.length ≤ i ∧ Refs H1 ts (((lettersN.take i).filter fun c => decide (c ∈ (ps.map fun z => z.cps.toList).flatten)).map fun c => (c, (ps.map fun z => z.cps.toList).flatten.count c)) LetAt) ⟨[], sD, upd_same, Nat.le_refl _, Refs.nil⟩ (fun _ _ _ _ => trivial) ?_ ?_
  · rintro i x H1 H2 hi ⟨ts, s1, h1, hl1, h2⟩ ⟨rfl, c, hc, rfl⟩
    have hc' : lettersN[i]? = some c := by rw [← eL, Array.getElem?_toList]; exact hc
    have hi5 : i < 5 := (List.getElem?_eq_some_iff.mp hc').1
    have et : lettersN.take (i + 1) = lettersN.take i ++ [c] := by rw [List.take_succ, hc']; rfl
    have sz : sizeLine = 16777216 := sizeLine_eq
    refine ⟨rfl, _, rfl, _, rfl, c, _, rfl, rfl, _, rfl, ite2d (fun hm => ?_) fun hm => ?_⟩
    · rw [ez] at hm
      refine ⟨_, rfl, _, rfl, ⟨_, rfl⟩, _, rfl, _, _, rfl, rfl, ?_⟩
      refine ⟨by show 2 ≤ sizeLine; decide, fun t ht => ⟨ts, by rw [upd_ne (ne_of_none h1 ht)]; exact h1, by omega, ?_⟩⟩
      have Dt : D ≠ t := ne_of_none h1 ht
      refine ⟨ts ++ [.ref t], fun b o e => ?_, upd_same, by simp; omega, ?_⟩
      · have bD : b ≠ D := fun z => by rw [z, hD] at e; cases e
        rw [upd_ne bD, upd_ne (ne_of_none (s1 _ _ e) ht)]; exact s1 _ _ e
      · rw [et, List.filter_append, List.map_append, List.filter_cons_of_pos (by simpa using hm)]
        refine Refs.snoc (h2.map fun u q _ r => ?_) ?_
        · have uD : u ≠ D := ne_of r h1 (by intro z; cases z)
          show upd _ D _ u = _
          rw [upd_ne uD, upd_ne (ne_of_none r ht)]; exact r
        · show upd _ D _ t = _
          rw [upd_ne Dt.symm, upd_same, count_l, ez]
          rfl
    · rw [ez] at hm
      refine ⟨ts, s1, h1, by omega, ?_⟩
      rw [et, List.filter_append, List.map_append, List.filter_cons_of_neg (by simpa using hm)]
      simpa using h2
  · rintro H1 ⟨ts, s1, h1, _, h2⟩
    refine ⟨D, ts, rfl, SqL.of h1, fun t ht => ?_⟩
    have s2 := same_new (o := .tup ts) ht
    have e5 : lettersN.take ("abcmn" : Str).cps.size = lettersN := by decide
    rw [e5] at h2
    exact k _ t (s1.trans s2) (s1.free ht) ⟨ts, upd_same, h2.map fun u q _ r => s2 _ _ r⟩
def sp_fixed_bits (_ : Txt w K mg) : Sp := fun vs H Q _ => ∃ z : Str, vs = [.str z] ∧ z.length ≤ 64 ∧ ∀ (H' : Hp) (t : Addr), Same H H' → H t = none → H' t = some (.tup [.int (mskN z.cps.toList : Nat), .int (bitN z.cps.toList : Nat)]) → Q (.ref t) H'
theorem sp_fixed_bits_len {T : Txt w K mg} {vs H Q E} (h : sp_fixed_bits T vs H Q E) : vs.length = 1 := by obtain ⟨_, rfl, _⟩ := h; rfl
theorem ok_fixed_bits (T : Txt w K mg) : FnOk P w K mg base CX0 1 T.f_fixed_bits T.fd_fixed_bits ["pattern"] (sp_fixed_bits T) := by
  skip
  refine T.F_fixed_bits.ok sc_fixed_bits (fun vs H Q E h => sp_fixed_bits_len h) (fun cdv A outer s H vs Q E hr h => ?_)
  obtain ⟨z, rfl, hl, k⟩ := h
  refine ⟨_, (pss_cons (ps_set (i := 1) sc_fixed_bits.nd rfl (Or.inl rfl) (pe_listEnS rfl (pe_revS (pv 0)) rfl T.n_list rfl T.n_enumerate))
       (pss_cons (ps_set (i := 2) sc_fixed_bits.nd rfl (Or.inl rfl) (pe_callB (cr_sum rfl) (by rfl) T.n_sum (by decide +kernel) (pa_cons (pe_lc (own := [("at", 3), ("sign", 4)]) rfl sc_fixed_bits.nd (pi_list (pv 1)) (blkOk_by (N := ["pattern", "places", "mask", "at", "sign"]) (sc := defScope s_fixed_bits) (by decide +kernel)) (fun _ _ _ _ _ => by (apply pg_tr; exact (pg_tup (n := 2) rfl (pgs_cons (pg_name (i := 3) sc_fixed_bits.nd rfl (Or.inl rfl)) (pgs_cons (pg_name (i := 4) sc_fixed_bits.nd rfl (Or.inl rfl)) pgs_nil))); (try dsimp only [Cx.blk]) <;> exact rfl)) (fun _ _ _ _ _ => by (apply pts_tr; exact (pts_one (pt_cmpR op_in_sign (pv 4) pe_str (by rfl))); (try dsimp only [Cx.blk]) <;> exact rfl)) (fun _ _ _ _ _ => by (apply pe_tr; exact (pe_op op_shl pe_int (pv 3)); (try dsimp only [Cx.blk]) <;> exact rfl))) pa_nil)))
       (pss_one (ps_ret (pe_tup (pa_cons (pv 2) (pa_cons (pe_callB (cr_sum rfl) (by rfl) T.n_sum (by decide +kernel) (pa_cons (pe_lc (own := [("at", 3), ("sign", 4)]) rfl sc_fixed_bits.nd (pi_list (pv 1)) (blkOk_by (N := ["pattern", "places", "mask", "at", "sign"]) (sc := defScope s_fixed_bits) (by decide +kernel)) (fun _ _ _ _ _ => by (apply pg_tr; exact (pg_tup (n := 2) rfl (pgs_cons (pg_name (i := 3) sc_fixed_bits.nd rfl (Or.inl rfl)) (pgs_cons (pg_name (i := 4) sc_fixed_bits.nd rfl (Or.inl rfl)) pgs_nil))); (try dsimp only [Cx.blk]) <;> exact rfl)) (fun _ _ _ _ _ => by (apply pts_tr; exact (pts_one (pt_cmpR op_eq (pv 4) pe_str (nomark _))); (try dsimp only [Cx.blk]) <;> exact rfl)) (fun _ _ _ _ _ => by (apply pe_tr; exact (pe_op op_shl pe_int (pv 3)); (try dsimp only [Cx.blk]) <;> exact rfl))) pa_nil)) pa_nil))))))), ?_⟩
  have sz : sizeLine = 16777216 := sizeLine_eq
  refine ⟨_, rfl, z, rfl, by omega, revS z, rfl, by rw [revS_len]; omega, ?_⟩
  rw [revS_len]
  intro H1 p ts s1 p0 t0 pts nd tl hp ht
  have er : ∀ i, sgn (revS z) i = .str ⟨#[z.cps.toList.reverse.getD i 0]⟩ := fun i => by
    unfold sgn revS
    rw [Array.getD_eq_getD_getElem?, List.getElem?_toArray, List.getD_eq_getElem?_getD]
  have it : ∀ (i : Nat) (x : V), (ts.map V.ref)[i]? = some x → ∃ t, ts[i]? = some t ∧ x = V.ref t := fun i x e => by
    rw [List.getElem?_map] at e
    cases h : ts[i]? with
    | none => rw [h] at e; cases e
    | some t => rw [h] at e; exact ⟨t, rfl, (Option.some.inj e).symm⟩
  have hlen : (ts.map V.ref).length = z.cps.toList.length := by rw [List.length_map, tl, Array.length_toList]; rfl
  have hz64 : z.cps.toList.length ≤ 64 := by rw [Array.length_toList]; exact hl
  refine ⟨_, rfl, p, rfl, ⟨_, SqL.of hp⟩, fun D hD => ?_⟩
  refine lc_it (walk_list (xs := ts.map V.ref)) (fun i H2 => ∃ ns : List Int, Same H1 H2 ∧ H2 D = some (.lst (ns.map V.int)) ∧ ns.length ≤ i ∧ ns.sum = ((selS is01 z.cps.toList.reverse i : Nat) : Int)) ⟨[], same_new hD, upd_same, Nat.le_refl _, rfl⟩ (fun i H2 _ ⟨_, s2, _⟩ => SqL.of (s2 _ _ hp)) ?_ ?_
  · rintro i x H2 H3 hi ⟨ns, s2, h2, hl2, hs2⟩ ⟨rfl, hx⟩
    obtain ⟨t, e1, rfl⟩ := it i x hx
    have h3 := s2 _ _ (ht i t e1)
    dsimp only at h3
    rw [er i] at h3
    refine ⟨t, _, rfl, SqT.of h3, rfl, _, _, rfl, _, _, rfl, rfl, rfl, _, rfl, _, _, rfl, rfl, _, rfl, ?_⟩
    rw [in01]
    refine iteB (fun c => ?_) fun c => ?_
    · refine ⟨_, rfl, _, _, rfl, rfl, cpow1 (by omega) (by omega), ns.map V.int, h2, by rw [List.length_map]; omega, ns ++ [1 * 2 ^ ((i : Nat) : Int).toNat], fun b o e => ?_, by rw [upd_same, List.map_append]; rfl, by simp; omega, ?_⟩
      · have bD : b ≠ D := fun z => by rw [z, hD] at e; cases e
        rw [upd_ne bD]; exact s2 _ _ e
      · rw [List.sum_append, hs2, selS, if_pos c, Int.toNat_natCast]
        simp
    · exact ⟨ns, s2, h2, by omega, by rw [hs2, selS, if_neg (by rw [c]; decide)]; simp⟩
  rintro H2 ⟨ns, s2, h2, _, hs2⟩
  rw [hlen, selS_msk] at hs2
  refine ⟨D, ns, rfl, SqL.of h2, ?_⟩
  rw [hs2]
  have hp2 := s2 _ _ hp
  refine ⟨_, rfl, _, rfl, p, rfl, ⟨_, SqL.of hp2⟩, fun D2 hD2 => ?_⟩
  refine lc_it (walk_list (xs := ts.map V.ref)) (fun i H3 => ∃ ns : List Int, Same H2 H3 ∧ H3 D2 = some (.lst (ns.map V.int)) ∧ ns.length ≤ i ∧ ns.sum = ((selS (fun c => c == 49) z.cps.toList.reverse i : Nat) : Int)) ⟨[], same_new hD2, upd_same, Nat.le_refl _, rfl⟩ (fun i H2 _ ⟨_, s3, _⟩ => SqL.of (s3 _ _ hp2)) ?_ ?_
  · rintro i x H3 H4 hi ⟨ns, s3, h3, hl3, hs3⟩ ⟨rfl, hx⟩
    obtain ⟨t, e1, rfl⟩ := it i x hx
    have h4 := s3 _ _ (s2 _ _ (ht i t e1))
    dsimp only at h4
    rw [er i] at h4
    refine ⟨t, _, rfl, SqT.of h4, rfl, _, _, rfl, _, _, rfl, rfl, rfl, _, rfl, rfl, _, rfl, ?_⟩
    rw [eqSg (d := 49) (by decide)]
    refine iteB (fun c => ?_) fun c => ?_
    · refine ⟨_, rfl, _, _, rfl, rfl, cpow1 (by omega) (by omega), ns.map V.int, h3, by rw [List.length_map]; omega, ns ++ [1 * 2 ^ ((i : Nat) : Int).toNat], fun b o e => ?_, by rw [upd_same, List.map_append]; rfl, by simp; omega, ?_⟩
      · have bD : b ≠ D2 := fun z => by rw [z, hD2] at e; cases e
        rw [upd_ne bD]; exact s3 _ _ e
      · rw [List.sum_append, hs3, selS, if_pos c, Int.toNat_natCast]
        simp
    · exact ⟨ns, s3, h3, by omega, by rw [hs3, selS, if_neg (by rw [c]; decide)]; simp⟩
  rintro H3 ⟨ns, s3, h3, _, hs3⟩
  rw [hlen, selS_bit] at hs3
  refine ⟨D2, ns, rfl, SqL.of h3, ?_⟩
  rw [hs3]
  refine ⟨by show 2 ≤ sizeLine; decide, fun t ht => ?_⟩
  have s4 := ((s1.trans s2).trans s3)
  exact k _ t (s4.trans (same_new ht)) (s4.free ht) upd_same
end
end My

/-! D -/
namespace My
open PySem L2
local macro_rules | `(tactic| walk_at "side") => `(tactic| first | with_reducible rfl | assumption | rfl | decide | omega | exact cpow1 (by omega) (by omega) | exact cdiv (by omega) (by omega) | exact two_pos _ | exact SqL.of (by assumption) | exact SqT.of (by assumption) | exact TyX.base (TyOf.int _) | exact TyX.base (TyOf.bl _) | exact TyX.base TyOf.non | exact scal_opt _ _ | exact k_ii | exact k_bi | exact k_ni | exact k_ib | exact k_bb | exact TyX.base (TyOf.lst (by assumption)) | exact k_ll | exact k_lt)
local macro_rules | `(tactic| walk_at "p") => `(tactic| repeat (first | refine And.intro (by walk_at "side") ?_ | apply Exists.intro | refine iteN (by assumption) ?_ | refine iteP (by assumption) ?_ | refine iteN (by decide) ?_ | refine iteP (by decide) ?_))

section
variable {P : Program} {w : World} {K : PySem.W.Frag} {mg : Str → Option Value} {base : Heap}
def sp_is_name (_ : Txt w K mg) : Sp := fun vs H Q _ => ∃ z : Str, vs = [.str z] ∧ nameOk z ∧ ∀ H', Same H H' → Q (.bl true) H'
theorem sp_is_name_len {T : Txt w K mg} {vs H Q E} (h : sp_is_name T vs H Q E) : vs.length = 1 := by obtain ⟨_, rfl, _⟩ := h; rfl
theorem ok_is_name (T : Txt w K mg) : FnOk P w K mg base CX0 1 T.f_is_name T.fd_is_name ["name"] (sp_is_name T) := by
  skip
  refine T.F_is_name.ok sc_is_name (fun vs H Q E h => sp_is_name_len h) (fun cdv A outer s H vs Q E hr h => ?_)
  obtain ⟨z, rfl, ⟨h1, h8, hc⟩, k⟩ := h
  refine ⟨_, (pss_cons (ps_if (PW.pt (pw_or (pt_not (pt_val (pe_callB call_isTy (by rfl) T.n_isinstance (by decide +kernel) (pa_cons (pv 0) (pa_cons (pe_bltn (v := .ty "str") (by rfl) T.n_str (by decide +kernel) rfl) pa_nil))))) (pw_or1 (pt_not (pt_chain op_le op_le pe_int (pe_callB call_len_str (by rfl) T.n_len (by decide +kernel) (pa_cons (pv 0) pa_nil)) pe_int)))))
        (pss_one (ps_ret pe_bl))
        pss_nil)
       (pss_one (ps_ret (pe_callB (cr_all rfl) (by rfl) T.n_all (by decide +kernel) (pa_cons (pe_lc (own := [("sign", 1)]) rfl sc_is_name.nd (pi_str (pv 0)) (blkOk_by (N := ["name", "sign"]) (sc := defScope s_is_name) (by decide +kernel)) (fun _ _ _ _ _ => by (apply pg_tr; exact pg_name (i := 1) sc_is_name.nd rfl (Or.inl rfl); (try dsimp only [Cx.blk]) <;> exact rfl)) (fun _ _ _ _ _ => by (apply pts_tr; exact pts_nil; (try dsimp only [Cx.blk]) <;> exact rfl)) (fun _ _ _ _ _ => by (apply pe_tr; exact (pe_cmpR op_in_sign (pv 1) (pe_glob (v := .str "abcdefghijklmnopqrstuvwxyz") rfl T.c_SMALL_LETTERS ⟨_, rfl⟩) (by rfl)); (try dsimp only [Cx.blk]) <;> exact rfl))) pa_nil))))), ?_⟩
  have sz : sizeLine = 16777216 := sizeLine_eq
  have d1 : decide ((1 : Int) ≤ (z.length : Nat)) = true := dT (by omega)
  have d2 : decide (((z.length : Nat) : Int) ≤ 8) = true := dT (by omega)
  refine ⟨_, rfl, _, _, _, rfl, ty4 (by rfl), _, k_4s (by rfl), _, rfl, iteN (fun q => by cases q) ?_⟩
  have hz : z.length ≤ sizeLine := by omega
  have d3 := nF d2
  walk_at "p"
  intro D hD
  refine lc_it walk_str (fun i H1 => Same H H1 ∧ H1 D = some (.lst ((List.replicate i true).map V.bl))) ⟨same_new hD, upd_same⟩ (fun _ _ _ _ => trivial) ?_ ?_
  · rintro i x H1 H2 hi ⟨s1, h1⟩ ⟨rfl, c, hc', rfl⟩
    have hm : c ∈ z.cps.toList := by
      rw [← Array.getElem?_toList] at hc'
      exact List.mem_of_getElem? hc'
    refine ⟨rfl, _, rfl, c, _, rfl, rfl, _, h1, by rw [List.length_map, List.length_replicate]; have : z.cps.size = z.length := rfl; omega, fun b o e => ?_, ?_⟩
    · have bD : b ≠ D := fun z => by rw [z, hD] at e; cases e
      rw [upd_ne bD]; exact s1 _ _ e
    · rw [upd_same, smallL c (hc c hm), rep_snoc]
  · rintro H1 ⟨s1, h1⟩
    refine ⟨D, _, rfl, SqL.of h1, ?_⟩
    rw [all_rep]
    exact k _ s1
def sp_is_pattern (_ : Txt w K mg) : Sp := fun vs H Q _ => ∃ (z : Str) (n : Nat), vs = [.int (n : Nat), .str z] ∧ z.length = n ∧ n ≤ 64 ∧ (∀ c ∈ z.cps.toList, okS c = true) ∧ ∀ H', Same H H' → Q (.bl true) H'
theorem sp_is_pattern_len {T : Txt w K mg} {vs H Q E} (h : sp_is_pattern T vs H Q E) : vs.length = 2 := by obtain ⟨_, _, rfl, _⟩ := h; rfl
theorem ok_is_pattern (T : Txt w K mg) : FnOk P w K mg base CX0 1 T.f_is_pattern T.fd_is_pattern ["word", "pattern"] (sp_is_pattern T) := by
  skip
  refine T.F_is_pattern.ok sc_is_pattern (fun vs H Q E h => sp_is_pattern_len h) (fun cdv A outer s H vs Q E hr h => ?_)
  obtain ⟨z, n, rfl, hn, h64, hc, k⟩ := h
  refine ⟨_, (pss_cons (ps_if (PW.pt (pw_or (pt_not (pt_val (pe_callB call_isTy (by rfl) T.n_isinstance (by decide +kernel) (pa_cons (pv 1) (pa_cons (pe_bltn (v := .ty "str") (by rfl) T.n_str (by decide +kernel) rfl) pa_nil))))) (pw_or1 (pt_cmpR op_ne (pe_callB call_len_str (by rfl) T.n_len (by decide +kernel) (pa_cons (pv 1) pa_nil)) (pv 0) (nomark _)))))
        (pss_one (ps_ret pe_bl))
        pss_nil)
       (pss_one (ps_ret (pe_callB (cr_all rfl) (by rfl) T.n_all (by decide +kernel) (pa_cons (pe_lc (own := [("sign", 2)]) rfl sc_is_pattern.nd (pi_str (pv 1)) (blkOk_by (N := ["word", "pattern", "sign"]) (sc := defScope s_is_pattern) (by decide +kernel)) (fun _ _ _ _ _ => by (apply pg_tr; exact pg_name (i := 2) sc_is_pattern.nd rfl (Or.inl rfl); (try dsimp only [Cx.blk]) <;> exact rfl)) (fun _ _ _ _ _ => by (apply pts_tr; exact pts_nil; (try dsimp only [Cx.blk]) <;> exact rfl)) (fun _ _ _ _ _ => by (apply pe_tr; exact (pe_cmpR op_in_sign (pv 2) pe_str (by rfl)); (try dsimp only [Cx.blk]) <;> exact rfl))) pa_nil))))), ?_⟩
  have sz : sizeLine = 16777216 := sizeLine_eq
  refine ⟨_, rfl, _, _, _, rfl, ty4 (by rfl), _, k_4s (by rfl), _, rfl, iteN (fun q => by cases q) ?_⟩
  have hz : z.length ≤ sizeLine := by omega
  have d1 : ¬ (!decide (V.int (z.length : Nat) = V.int (n : Nat))) = true := by rw [hn]; simp
  walk_at "p"
  intro D hD
  refine lc_it walk_str (fun i H1 => Same H H1 ∧ H1 D = some (.lst ((List.replicate i true).map V.bl))) ⟨same_new hD, upd_same⟩ (fun _ _ _ _ => trivial) ?_ ?_
  · rintro i x H1 H2 hi ⟨s1, h1⟩ ⟨rfl, c, hc', rfl⟩
    have hm : c ∈ z.cps.toList := by
      rw [← Array.getElem?_toList] at hc'
      exact List.mem_of_getElem? hc'
    refine ⟨rfl, _, rfl, c, _, rfl, rfl, _, h1, by rw [List.length_map, List.length_replicate]; have : z.cps.size = z.length := rfl; omega, fun b o e => ?_, ?_⟩
    · have bD : b ≠ D := fun z => by rw [z, hD] at e; cases e
      rw [upd_ne bD]; exact s1 _ _ e
    · rw [upd_same, inOk, hc c hm, rep_snoc]
  · rintro H1 ⟨s1, h1⟩
    refine ⟨D, _, rfl, SqL.of h1, ?_⟩
    rw [all_rep]
    exact k _ s1
def sp_are_patterns (_ : Txt w K mg) : Sp := fun vs H Q _ => ∃ (a : Addr) (ps : List Str) (n r : Nat), vs = [.int (n : Nat), .int (r : Nat), .ref a] ∧ Row H a (ps.map V.str) ∧ n ≤ 64 ∧ PatsOk n r ps ∧ ∀ H', Same H H' → Q (.bl true) H'
theorem sp_are_patterns_len {T : Txt w K mg} {vs H Q E} (h : sp_are_patterns T vs H Q E) : vs.length = 3 := by obtain ⟨_, _, _, _, rfl, _⟩ := h; rfl
theorem ok_are_patterns (T : Txt w K mg) : FnOk P w K mg base CX0 2 T.f_are_patterns T.fd_are_patterns ["word", "registers", "patterns"] (sp_are_patterns T) := by
  have G_is_pattern := ok_is_pattern (P := P) (w := w) (base := base) T; have G_is_row := ok_is_row (P := P) (w := w) (base := base) T; have G_letters_of := ok_letters_of (P := P) (w := w) (base := base) T
  refine T.F_are_patterns.ok sc_are_patterns (fun vs H Q E h => sp_are_patterns_len h) (fun cdv A outer s H vs Q E hr h => ?_)
  obtain ⟨a, ps, n, r, rfl, ha, h64, hp, k⟩ := h
  refine ⟨_, (pss_cons (ps_if (PW.pt (pw_or (pt_not (pt_val (pe_call G_is_row hr rfl T.g_is_row T.F_is_row.kp T.b_is_row .nil pass0 (pa_cons (pv 2) pa_nil)))) (pw_or1 (pt_not (pt_chain op_le op_le pe_int (pe_callB call_len_seq (by rfl) T.n_len (by decide +kernel) (pa_cons (pv 2) pa_nil)) (pe_glob (v := .int 3) rfl T.c_MOST_PATTERNS ⟨_, rfl⟩))))))
        (pss_one (ps_ret pe_bl))
        pss_nil)
       (pss_cons (ps_if (pt_not (pt_val (pe_callB (cr_all rfl) (by rfl) T.n_all (by decide +kernel) (pa_cons (pe_lc (own := [("pattern", 5)]) rfl sc_are_patterns.nd (pi_seq (i := 2) rfl (Or.inl rfl)) (blkOk_by (N := ["word", "registers", "patterns", "letter", "bits", "pattern"]) (sc := defScope s_are_patterns) (by decide +kernel)) (fun _ _ _ _ _ => by (apply pg_tr; exact pg_name (i := 5) sc_are_patterns.nd rfl (Or.inl rfl); (try dsimp only [Cx.blk]) <;> exact rfl)) (fun _ _ _ _ _ => by (apply pts_tr; exact pts_nil; (try dsimp only [Cx.blk]) <;> exact rfl)) (fun _ _ _ _ _ => by (apply pe_tr; exact (pe_call G_is_pattern hr rfl T.g_is_pattern T.F_is_pattern.kp T.b_is_pattern .nil pass0 (pa_cons (pv 0) (pa_cons (pv 5) pa_nil))); (try dsimp only [Cx.blk]) <;> exact rfl))) pa_nil))))
        (pss_one (ps_ret pe_bl))
        pss_nil)
       (pss_cons (ps_for PassesOwn.never rfl (pi_tup (pe_call G_letters_of hr rfl T.g_letters_of T.F_letters_of.kp T.b_letters_of .nil pass0 (pa_cons (pv 2) pa_nil))) (pg_tup (n := 2) rfl (pgs_cons (pg_name (i := 3) sc_are_patterns.nd rfl (Or.inl rfl)) (pgs_cons (pg_name (i := 4) sc_are_patterns.nd rfl (Or.inl rfl)) pgs_nil)))
        (pss_cons (ps_if (PW.pt (pw_and (pt_cmpR op_in_sign (pv 3) (pe_glob (v := .str "abc") rfl T.c_REGISTER_LETTERS ⟨_, rfl⟩) (by rfl)) (pw_and1 (pt_cmpR op_gt (pe_op op_shl pe_int (pv 4)) (pv 1) (nomark _)))))
        (pss_one (ps_ret pe_bl))
        pss_nil)
       (pss_one (ps_if (pt_cmpR op_gt (pv 4) (pv 0) (nomark _))
        (pss_one (ps_ret pe_bl))
        pss_nil))))
       (pss_one (ps_ret pe_bl))))), ?_⟩
  have sz : sizeLine = 16777216 := sizeLine_eq
  have hl3 := hp.l3
  have hl1 := hp.l1
  have d1 : decide ((1 : Int) ≤ ((ps.map V.str).length : Nat)) = true := dT (by rw [List.length_map]; omega)
  have d2 : decide ((((ps.map V.str).length : Nat) : Int) ≤ 3) = true := dT (by rw [List.length_map]; omega)
  refine ⟨_, rfl, .inl ⟨a, _, rfl, ha, fun H1 s1 => ?_⟩⟩
  have ha1 := ha.news s1
  have ha1' : SqL K H1 a (ps.map V.str) ∨ SqT K H1 a (ps.map V.str) := ha1.elim (fun z => .inl (SqL.of z)) fun z => .inr (SqT.of z)
  refine ⟨_, rfl, iteN (fun q => by cases q) ?_⟩
  have d3 := nF d2
  refine ⟨_, rfl, a, _, rfl, ha1', _, _, rfl, rfl, _, rfl, iteP d1 ⟨_, _, rfl, rfl, _, rfl, iteN d3 ?_⟩⟩
  refine ⟨a, _, rfl, ha1, fun J G wk hG D hD => ?_⟩
  refine lc_it wk (fun i H2 => Same H1 H2 ∧ H2 D = some (.lst ((List.replicate i true).map V.bl))) ⟨same_new hD, upd_same⟩ (fun i H2 _ ⟨s2, _⟩ => hG _ (ha1.eq s2)) ?_ ?_
  · rintro i x H2 H3 hi ⟨s2, h2⟩ ⟨rfl, hx⟩
    rw [List.getElem?_map] at hx
    obtain ⟨z, hz, rfl⟩ : ∃ z, ps[i]? = some z ∧ x = V.str z := by
      cases h : ps[i]? with
      | none => rw [h] at hx; cases hx
      | some z => rw [h] at hx; exact ⟨z, rfl, (Option.some.inj hx).symm⟩
    obtain ⟨z1, z2⟩ := hp.pat z (List.mem_of_getElem? hz)
    have hi3 : i < ps.length := (List.getElem?_eq_some_iff.mp hz).1
    refine ⟨rfl, _, rfl, _, rfl, z, n, rfl, z1, h64, z2, fun H4 s4 => ⟨_, s4 _ _ h2, by rw [List.length_map, List.length_replicate]; omega, fun b o e => ?_, ?_⟩⟩
    · have bD : b ≠ D := fun z => by rw [z, hD] at e; cases e
      rw [upd_ne bD]; exact s4 _ _ (s2 _ _ e)
    · rw [upd_same, rep_snoc]
  rintro H2 ⟨s2, h2⟩
  refine ⟨D, _, rfl, SqL.of h2, ?_⟩
  rw [all_rep]
  refine ⟨_, rfl, iteN (nF rfl) ?_⟩
  have ha2 := ha1.news s2
  refine ⟨_, rfl, a, ps, rfl, ha2, ?_, fun H3 t s3 t0 hL => ?_⟩
  · rw [lens_le fun z hz => (hp.pat z hz).1]
    have := Nat.mul_le_mul hl3 h64
    omega
  obtain ⟨ts, hts, hR⟩ := hL
  refine ⟨t, rfl, ⟨_, SqT.of hts⟩, ?_⟩
  refine for_it (walk_tup (xs := ts)) (fun i σ H4 => H4 = H3 ∧ ∃ v3 v4 v5 : Option V, σ = [some (.int (n : Nat)), some (.int (r : Nat)), some (.ref a), v3, v4, v5]) ⟨rfl, _, _, _, rfl⟩ (fun i σ H4 _ ⟨e, _⟩ => by rw [e]; exact SqT.of hts) ?_ ?_
  · rintro i x σ H4 H5 hi ⟨rfl, v3, v4, v5, rfl⟩ ⟨rfl, hx⟩
    obtain ⟨u, q, hq, hu, hr⟩ := hR.at (i := i) (by rw [← hR.1]; exact hi)
    rw [hu] at hx
    cases hx
    obtain ⟨b1, b2⟩ := hp.bits q (List.mem_of_getElem? hq)
    refine ⟨u, _, rfl, SqT.of hr, rfl, _, _, rfl, _, _, rfl, rfl, ?_⟩
    refine ⟨_, rfl, q.1, _, rfl, rfl, _, rfl, ?_⟩
    rw [inReg]
    have d5 : ¬ decide (((n : Nat) : Int) < (q.2 : Nat)) = true := dF (by omega)
    refine iteB (fun c => ?_) fun c => ?_
    · have b3 := b2 c
      refine ⟨_, rfl, _, _, rfl, rfl, cpow1 (by omega) (by omega), _, rfl, _, _, rfl, rfl, _, rfl, iteN (dF ?_) ?_⟩
      · rw [Int.one_mul, Int.toNat_natCast]
        have : ((2 ^ q.2 : Nat) : Int) ≤ (r : Nat) := by exact_mod_cast b3
        have e : ((2 ^ q.2 : Nat) : Int) = 2 ^ q.2 := by simp
        omega
      · refine ⟨_, rfl, _, rfl, _, _, rfl, rfl, _, rfl, iteN d5 ?_⟩
        exact ⟨rfl, _, _, _, rfl⟩
    · refine iteN (by decide) ?_
      refine ⟨_, rfl, _, rfl, _, _, rfl, rfl, _, rfl, iteN d5 ?_⟩
      exact ⟨rfl, _, _, _, rfl⟩
  · rintro σ H4 ⟨rfl, v3, v4, v5, rfl⟩
    exact k _ ((s1.trans s2).trans s3)
end
end My

/-! D2 -/
namespace My
open PySem L2
local macro_rules | `(tactic| walk_at "side") => `(tactic| first | with_reducible rfl | assumption | rfl | decide | omega | exact cpow1 (by omega) (by omega) | exact cdiv (by omega) (by omega) | exact two_pos _ | exact SqL.of (by assumption) | exact SqT.of (by assumption) | exact TyX.base (TyOf.int _) | exact TyX.base (TyOf.bl _) | exact TyX.base TyOf.non | exact scal_opt _ _ | exact k_ii | exact k_bi | exact k_ni | exact k_ib | exact k_bb | exact TyX.base (TyOf.lst (by assumption)) | exact k_ll | exact k_lt)
local macro_rules | `(tactic| walk_at "p") => `(tactic| repeat (first | refine And.intro (by walk_at "side") ?_ | apply Exists.intro | refine iteN (by assumption) ?_ | refine iteP (by assumption) ?_ | refine iteN (by decide) ?_ | refine iteP (by decide) ?_))

section
variable {P : Program} {w : World} {K : PySem.W.Frag} {mg : Str → Option Value} {base : Heap}
/-- the first line whose name is among these -/
def sp_first_of (_ : Txt w K mg) : Sp := fun vs H Q _ => ∃ (a b : Addr) (ls : List Ln) (p : Ln → Bool) (zs : List Str), vs = [.ref a, .ref b] ∧ LinesAt H a ls ∧ ls.length ≤ 12 ∧ SqT K H b (zs.map V.str) ∧ (∀ l ∈ ls, decide (l.nm ∈ zs) = p l) ∧ ∀ H', Same H H' → Q (firstL p ls) H'
theorem sp_first_of_len {T : Txt w K mg} {vs H Q E} (h : sp_first_of T vs H Q E) : vs.length = 2 := by obtain ⟨_, _, _, _, _, rfl, _⟩ := h; rfl
theorem inStrs (z : Str) : ∀ zs : List Str, inV (V.str z) (zs.map V.str) = decide (z ∈ zs)
  | [] => rfl
  | y :: r => by
    have ih := inStrs z r
    unfold inV at ih ⊢
    rw [List.map_cons, List.any_cons, ih]
    show (decide _ || _) = _
    by_cases h : y = z
    · subst h; simp [eqV]
    · have h' : z ≠ y := fun e => h e.symm
      simp [eqV, h, h']
theorem flatStrs (zs : List Str) : (zs.map V.str).all flatV = true := by rw [List.all_map]; exact List.all_eq_true.mpr fun _ _ => rfl
theorem ok_first_of (T : Txt w K mg) : FnOk P w K mg base CX0 1 T.f_first_of T.fd_first_of ["lines", "names"] (sp_first_of T) := by
  skip
  refine T.F_first_of.ok sc_first_of (fun vs H Q E h => sp_first_of_len h) (fun cdv A outer s H vs Q E hr h => ?_)
  obtain ⟨a, b, ls, p, zs, rfl, ⟨us, hus, hR⟩, l12, hb, hp, k⟩ := h
  have sz : sizeLine = 16777216 := sizeLine_eq
  have hul := hR.1
  refine ⟨_, (pss_cons (ps_for PassesOwn.never rfl (pi_enS (by rfl) T.n_enumerate (pa_cons (pv 0) pa_nil)) (pg_tup (n := 2) rfl (pgs_cons (pg_name (i := 2) sc_first_of.nd rfl (Or.inl rfl)) (pgs_cons (pg_name (i := 3) sc_first_of.nd rfl (Or.inl rfl)) pgs_nil)))
        (pss_one (ps_if (pt_cmpR op_in_seq (pe_ix ix_tup (pv 3) pe_int (fun _ _ => rfl)) (pv 1) (by rfl))
        (pss_one (ps_ret (pv 2)))
        pss_nil)))
       (pss_one (ps_ret pe_non))), ?_⟩
  refine ⟨_, rfl, a, _, rfl, .inr hus, fun J G wk hG => ?_⟩
  refine for_it wk (fun i σ H1 => Same H H1 ∧ (ls.take i).findIdx? p = none ∧ ∃ v2 v3 : Option V, σ = [some (.ref a), some (.ref b), v2, v3]) ⟨Same.refl _, rfl, none, none, rfl⟩ (fun i σ H1 _ ⟨s1, _⟩ => hG _ (by rw [s1 _ _ hus, hus])) ?_ ?_
  · rintro i x σ H1 H2 hi ⟨s1, hno, v2, v3, rfl⟩ ⟨T', x', y', rfl, hT0, rfl, hx', hy⟩
    cases hx'
    obtain ⟨u, l, hl, hu, hr⟩ := hR.at (i := i) (by omega)
    have hy := hy.symm.trans hu
    cases hy
    have s2 := same_new (o := .tup [.int (i : Nat), .ref u]) hT0
    have hr2 := s2 _ _ (s1 _ _ hr)
    refine ⟨T', _, rfl, SqT.of upd_same, rfl, _, _, rfl, _, _, rfl, rfl, ?_⟩
    refine ⟨_, rfl, u, _, _, _, rfl, rfl, SqT.of hr2, ln_at0 l, _, rfl, ?_⟩
    have hb2 : SqT K (upd H1 T' (.tup [.int (i : Nat), .ref u])) b (zs.map V.str) := sqT_news (s1.trans s2) hb
    refine ⟨b, _, rfl, .inr hb2, rfl, flatStrs zs, _, rfl, ?_⟩
    rw [inStrs]
    have e := hp l (List.mem_of_getElem? hl)
    have hlt := (List.getElem?_eq_some_iff.mp hl).1
    have etk : ls.take (i + 1) = ls.take i ++ [l] := by rw [List.take_succ, hl]; rfl
    refine iteB (fun c => ?_) fun c => ?_
    · have hpl : p l = true := by rw [← e]; exact c
      have hf : ls.findIdx? p = some i := by
        have e2 : ls = ls.take i ++ (l :: ls.drop (i + 1)) := by
          rw [← (List.getElem?_eq_some_iff.mp hl).2, ← List.drop_eq_getElem_cons hlt, List.take_append_drop]
        rw [e2, List.findIdx?_append, hno, List.findIdx?_cons, hpl]
        simp
        omega
      have kk := k _ (s1.trans s2)
      unfold firstL at kk
      rw [hf] at kk
      exact ⟨_, rfl, kk⟩
    · have hpl : p l = false := by rw [← e]; exact c
      refine ⟨s1.trans s2, ?_, _, _, rfl⟩
      rw [etk, List.findIdx?_append, hno]
      simp [hpl]
  · rintro σ H1 ⟨s1, hno, v2, v3, rfl⟩
    rw [List.take_of_length_le (by omega)] at hno
    have kk := k _ s1
    unfold firstL at kk
    rw [hno] at kk
    exact kk
/-- what a line's entry may be -/
def entOk (x : V) : Prop := (∃ i : Nat, x = .int (i : Nat) ∧ i ≤ 255) ∨ ∃ z : Str, x = .str z ∧ z.length ≤ 20
def sp_written_line (_ : Txt w K mg) : Sp := fun vs H Q _ => ∃ (a : Addr) (es : List V), vs = [.ref a] ∧ H a = some (.tup es) ∧ (∀ e ∈ es, entOk e) ∧ es.length ≤ 20 ∧ ∀ (H' : Hp) (z : Str), Same H H' → z.length ≤ 1000 → Q (.str z) H'
theorem sp_written_line_len {T : Txt w K mg} {vs H Q E} (h : sp_written_line T vs H Q E) : vs.length = 1 := by obtain ⟨_, _, rfl, _⟩ := h; rfl
theorem ok_written_line (T : Txt w K mg) : FnOk P w K mg base CX0 1 T.f_written_line T.fd_written_line ["entries"] (sp_written_line T) := by
  skip
  refine T.F_written_line.ok sc_written_line (fun vs H Q E h => sp_written_line_len h) (fun cdv A outer s H vs Q E hr h => ?_)
  obtain ⟨a, es, rfl, ha, he, hl, k⟩ := h
  refine ⟨_, (pss_one (ps_ret (pe_op op_add_str (pe_join pe_str (pe_lc (own := [("entry", 1)]) rfl sc_written_line.nd (pi_tup (pv 0)) (blkOk_by (N := ["entries", "entry"]) (sc := defScope s_written_line) (by decide +kernel)) (fun _ _ _ _ _ => by (apply pg_tr; exact pg_name (i := 1) sc_written_line.nd rfl (Or.inl rfl); (try dsimp only [Cx.blk]) <;> exact rfl)) (fun _ _ _ _ _ => by (apply pts_tr; exact pts_nil; (try dsimp only [Cx.blk]) <;> exact rfl)) (fun _ _ _ _ _ => by (apply pe_tr; exact (pe_callTy call_strA (by rfl) T.n_str (by decide +kernel) (pa_cons (pv 1) pa_nil)); (try dsimp only [Cx.blk]) <;> exact rfl)))) pe_str))), ?_⟩
  have sz : sizeLine = 16777216 := sizeLine_eq
  have e1 : (" " : Str).length = 1 := by decide
  have e2 : ("\n" : Str).length = 1 := by decide
  refine ⟨⟨_, rfl⟩, _, rfl, a, rfl, ⟨_, SqT.of ha⟩, fun D hD => ?_⟩
  refine lc_it (walk_tup (xs := es)) (fun i H1 => ∃ ys : List Str, Same H H1 ∧ H1 D = some (.lst (ys.map V.str)) ∧ ys.length = i ∧ ∀ y ∈ ys, y.length ≤ 20) ⟨[], same_new hD, upd_same, rfl, by simp⟩ (fun i H1 _ ⟨_, s1, _⟩ => SqT.of (s1 _ _ ha)) ?_ ?_
  · rintro i x H1 H2 hi ⟨ys, s1, h1, l1, b1⟩ ⟨rfl, hx⟩
    have go : ∀ z : Str, z.length ≤ 20 → ∃ acc, H2 D = some (.lst acc) ∧ acc.length < sizeLine ∧ ∃ ys : List Str, Same H (upd H2 D (.lst (acc ++ [.str z]))) ∧ upd H2 D (.lst (acc ++ [.str z])) D = some (.lst (ys.map V.str)) ∧ ys.length = i + 1 ∧ ∀ y ∈ ys, y.length ≤ 20 := fun z hz => by
      refine ⟨_, h1, by rw [List.length_map]; omega, ys ++ [z], fun b o e => ?_, by rw [upd_same, List.map_append]; rfl, by simp [l1], fun y hy => ?_⟩
      · have bD : b ≠ D := fun z => by rw [z, hD] at e; cases e
        rw [upd_ne bD]; exact s1 _ _ e
      · rcases List.mem_append.mp hy with hy | hy
        · exact b1 y hy
        · rw [List.mem_singleton.mp hy]; exact hz
    rcases he x (List.mem_of_getElem? hx) with ⟨j, rfl, hj⟩ | ⟨z, rfl, hz⟩
    · obtain ⟨q1, q2⟩ := small_str j hj
      exact ⟨rfl, _, rfl, .inl ⟨_, rfl, q2, go _ (Nat.le_trans q1 (by decide))⟩⟩
    · exact ⟨rfl, _, rfl, .inr ⟨_, rfl, go z hz⟩⟩
  rintro H1 ⟨ys, s1, h1, l1, b1⟩
  have sum : (ys.map (·.length)).sum ≤ ys.length * 20 := by
    clear h1 l1 
    induction ys with
    | nil => simp
    | cons y r ih =>
      have := ih fun z hz => b1 z (by simp [hz])
      have := b1 y (by simp)
      rw [List.map_cons, List.sum_cons, List.length_cons, Nat.succ_mul]; omega
  have jl : (Txt.join (" " : Str) ys).length ≤ (ys.map (·.length)).sum + ys.length * 1 := by
    have := StrLaws.join_length_le (" " : Str) ys
    rw [e1] at this
    have e : Txt.join (" " : Str) ys = Str.join " " ys := StrLaws.glued_eq_join _ _
    rw [e]; exact this
  refine ⟨_, D, ys, rfl, rfl, .inl (SqL.of h1), by rw [e1]; omega, _, _, rfl, rfl, by rw [e2]; omega, ?_⟩
  refine k _ _ s1 ?_
  show (Txt.join (" " : Str) ys ++ ("\n" : Str)).length ≤ 1000
  have : (Txt.join (" " : Str) ys ++ ("\n" : Str)).length = (Txt.join (" " : Str) ys).length + ("\n" : Str).length := by
    show ((Txt.join (" " : Str) ys).cps ++ ("\n" : Str).cps).size = _
    rw [Array.size_append]; rfl
  rw [this, e2]; omega
end
end My

/-! D3 -/
namespace My
open PySem L2
local macro_rules | `(tactic| walk_at "side") => `(tactic| first | with_reducible rfl | assumption | rfl | decide | omega | exact cpow1 (by omega) (by omega) | exact cdiv (by omega) (by omega) | exact two_pos _ | exact SqL.of (by assumption) | exact SqT.of (by assumption) | exact TyX.base (TyOf.int _) | exact TyX.base (TyOf.bl _) | exact TyX.base TyOf.non | exact scal_opt _ _ | exact k_ii | exact k_bi | exact k_ni | exact k_ib | exact k_bb | exact TyX.base (TyOf.lst (by assumption)) | exact k_ll | exact k_lt)
local macro_rules | `(tactic| walk_at "p") => `(tactic| repeat (first | refine And.intro (by walk_at "side") ?_ | apply Exists.intro | refine iteN (by assumption) ?_ | refine iteP (by assumption) ?_ | refine iteN (by decide) ?_ | refine iteP (by decide) ?_))

section
variable {P : Program} {w : World} {K : PySem.W.Frag} {mg : Str → Option Value} {base : Heap}
def sp_Form_init (T : Txt w K mg) : Sp := fun vs H Q _ => ∃ (p dx pt ln : Addr) (f : FM), vs = [.ref p, .str f.nm, .ref pt, .ref ln] ∧ H p = some (.ins T.C_Form dx []) ∧ H pt = some (.tup (f.ps.map V.str)) ∧ LinesAt H ln f.ls ∧ f.ls.length ≤ 12 ∧ lens f.ps ≤ 1000 ∧ (∀ z ∈ f.ps, z.length ≤ 64) ∧ f.ps.length ≤ 3 ∧
  ∀ H', (∀ b o, H b = some o → b ≠ p → H' b = some o) → FormAt T.C_Form H' p f → Q .non H'
theorem sp_Form_init_len {T : Txt w K mg} {vs H Q E} (h : sp_Form_init T vs H Q E) : vs.length = 4 := by obtain ⟨_, _, _, _, _, rfl, _⟩ := h; rfl
theorem ok_Form_init (T : Txt w K mg) : FnOk P w K mg base CX0 2 T.f_Form_init T.fd_Form_init ["self", "name", "patterns", "lines"] (sp_Form_init T) := by
  have G_first_of := ok_first_of (P := P) (w := w) (base := base) T; have G_fixed_bits := ok_fixed_bits (P := P) (w := w) (base := base) T; have G_letters_of := ok_letters_of (P := P) (w := w) (base := base) T
  refine T.F_Form_init.ok sc_Form_init (fun vs H Q E h => sp_Form_init_len h) (fun cdv A outer s H vs Q E hr h => ?_)
  obtain ⟨p, dx, pt, ln, f, rfl, hp, hpt, hlnA, l12, hl, h64, h3, k⟩ := h
  obtain ⟨lus, hln, hlR⟩ := id hlnA
  refine ⟨_, (pss_cons (ps_fld (pv 0) (pv 1) rfl)
       (pss_cons (ps_fld (pv 0) (pv 2) rfl)
       (pss_cons (ps_fld (pv 0) (pv 3) rfl)
       (pss_cons (ps_fld (pv 0) (pe_callB call_lenT (by rfl) T.n_len (by decide +kernel) (pa_cons (pv 2) pa_nil)) rfl)
       (pss_cons (ps_fld (pv 0) (pe_call G_letters_of hr rfl T.g_letters_of T.F_letters_of.kp T.b_letters_of .nil pass0 (pa_cons (pv 2) pa_nil)) rfl)
       (pss_cons (ps_fld (pv 0) (pe_call G_first_of hr rfl T.g_first_of T.F_first_of.kp T.b_first_of .nil pass0 (pa_cons (pv 3) (pa_cons (pe_glob (v := .ref T.a_EFFECTS) rfl T.c_EFFECTS rfl) pa_nil))) rfl)
       (pss_cons (ps_fld (pv 0) (pe_call G_first_of hr rfl T.g_first_of T.F_first_of.kp T.b_first_of .nil pass0 (pa_cons (pv 3) (pa_cons (pe_tup (pa_cons pe_str pa_nil)) pa_nil))) rfl)
       (pss_one (ps_fld (pv 0) (pe_callTy call_tupleL (by rfl) T.n_tuple (by decide +kernel) (pa_cons (pe_lc (own := [("pattern", 4)]) rfl sc_Form_init.nd (pi_tup (pv 2)) (blkOk_by (N := ["self", "name", "patterns", "lines", "pattern"]) (sc := defScope s_Form_init) (by decide +kernel)) (fun _ _ _ _ _ => by (apply pg_tr; exact pg_name (i := 4) sc_Form_init.nd rfl (Or.inl rfl); (try dsimp only [Cx.blk]) <;> exact rfl)) (fun _ _ _ _ _ => by (apply pts_tr; exact pts_nil; (try dsimp only [Cx.blk]) <;> exact rfl)) (fun _ _ _ _ _ => by (apply pe_tr; exact (pe_call G_fixed_bits hr rfl T.g_fixed_bits T.F_fixed_bits.kp T.b_fixed_bits .nil pass0 (pa_cons (pv 4) pa_nil)); (try dsimp only [Cx.blk]) <;> exact rfl))) pa_nil)) rfl))))))))), ?_⟩
  have ppt : p ≠ pt := ne_of hp hpt (by intro z; cases z)
  have pln : p ≠ ln := ne_of hp hln (by intro z; cases z)
  refine ⟨_, rfl, _, rfl, p, T.C_Form, dx, _, rfl, hp, T.cl_Form, T.nA_Form_name, by decide, ?_⟩
  rw [put_form_0]
  refine ⟨_, rfl, _, rfl, p, T.C_Form, dx, _, rfl, upd_same, T.cl_Form, T.nA_Form_patterns, by show 1 < 1000; decide, ?_⟩
  rw [put_form_1]
  refine ⟨_, rfl, _, rfl, p, T.C_Form, dx, _, rfl, upd_same, T.cl_Form, T.nA_Form_lines, by show 2 < 1000; decide, ?_⟩
  rw [put_form_2]
  have kp3 : ∀ b o, H b = some o → b ≠ p → upd (upd (upd H p (.ins T.C_Form dx [("name", .str f.nm)])) p (.ins T.C_Form dx [("name", .str f.nm), ("patterns", .ref pt)])) p (.ins T.C_Form dx [("name", .str f.nm), ("patterns", .ref pt), ("lines", .ref ln)]) b = some o := fun b o e hb => by rw [upd_ne hb, upd_ne hb, upd_ne hb]; exact e
  generalize hH3 : upd (upd (upd H p (.ins T.C_Form dx [("name", .str f.nm)])) p (.ins T.C_Form dx [("name", .str f.nm), ("patterns", .ref pt)])) p (.ins T.C_Form dx [("name", .str f.nm), ("patterns", .ref pt), ("lines", .ref ln)]) = H3 at kp3 ⊢
  have hp3 : H3 p = some (.ins T.C_Form dx [("name", .str f.nm), ("patterns", .ref pt), ("lines", .ref ln)]) := by rw [← hH3]; exact upd_same
  have hpt3 := kp3 _ _ hpt ppt.symm
  have hln3 := kp3 _ _ hln pln.symm
  refine ⟨_, rfl, pt, _, rfl, SqT.of hpt3, _, rfl, p, T.C_Form, dx, _, rfl, hp3, T.cl_Form, T.nA_Form_size, by show 3 < 1000; decide, ?_⟩
  rw [put_form_3]
  have kp4 : ∀ b o, H b = some o → b ≠ p → upd H3 p (.ins T.C_Form dx [("name", .str f.nm), ("patterns", .ref pt), ("lines", .ref ln), ("size", .int ((f.ps.map V.str).length : Nat))]) b = some o := fun b o e hb => by rw [upd_ne hb]; exact kp3 _ _ e hb
  generalize hH4 : upd H3 p (.ins T.C_Form dx [("name", .str f.nm), ("patterns", .ref pt), ("lines", .ref ln), ("size", .int ((f.ps.map V.str).length : Nat))]) = H4 at kp4 ⊢
  have hp4 : H4 p = some (.ins T.C_Form dx [("name", .str f.nm), ("patterns", .ref pt), ("lines", .ref ln), ("size", .int ((f.ps.map V.str).length : Nat))]) := by rw [← hH4]; exact upd_same
  refine ⟨_, rfl, pt, f.ps, rfl, .inr (kp4 _ _ hpt ppt.symm), hl, fun H5 lt s5 lt0 hL => ?_⟩
  refine ⟨_, rfl, p, T.C_Form, dx, _, rfl, s5 _ _ hp4, T.cl_Form, T.nA_Form_letters, by show 4 < 1000; decide, ?_⟩
  rw [put_form_4]
  have plt : p ≠ lt := ne_of_none hp4 lt0
  have kp6 : ∀ b o, H5 b = some o → b ≠ p → upd H5 p (.ins T.C_Form dx [("name", .str f.nm), ("patterns", .ref pt), ("lines", .ref ln), ("size", .int ((f.ps.map V.str).length : Nat)), ("letters", .ref lt)]) b = some o := fun b o e hb => by rw [upd_ne hb]; exact e
  generalize hH6 : upd H5 p (.ins T.C_Form dx [("name", .str f.nm), ("patterns", .ref pt), ("lines", .ref ln), ("size", .int ((f.ps.map V.str).length : Nat)), ("letters", .ref lt)]) = H6 at kp6 ⊢
  have hp6 : H6 p = some (.ins T.C_Form dx [("name", .str f.nm), ("patterns", .ref pt), ("lines", .ref ln), ("size", .int ((f.ps.map V.str).length : Nat)), ("letters", .ref lt)]) := by rw [← hH6]; exact upd_same
  have k6 : ∀ b o, H b = some o → b ≠ p → H6 b = some o := fun b o e hb => kp6 _ _ (s5 _ _ (kp4 _ _ e hb)) hb
  have lat : ∀ H' : Hp, (∀ b o, H b = some o → b ≠ p → H' b = some o) → LinesAt H' ln f.ls := fun H' kk => ⟨lus, kk _ _ hln pln.symm, hlR.map fun u q _ r => kk _ _ r fun z => by rw [z] at r; unfold LnAt at r; rw [hp] at r; cases r⟩
  refine ⟨_, rfl, ln, T.a_EFFECTS, f.ls, Ln.isE, ["write", "in", "out"], rfl, lat _ k6, l12, T.v_EFFECTS _, fun l _ => nm_eff l, fun H7 s7 => ?_⟩
  refine ⟨_, rfl, p, T.C_Form, dx, _, rfl, s7 _ _ hp6, T.cl_Form, T.nA_Form_effect, by show 5 < 1000; decide, ?_⟩
  rw [put_form_5]
  have kp8 : ∀ b o, H7 b = some o → b ≠ p → upd H7 p (.ins T.C_Form dx [("name", .str f.nm), ("patterns", .ref pt), ("lines", .ref ln), ("size", .int ((f.ps.map V.str).length : Nat)), ("letters", .ref lt), ("effect", firstL Ln.isE f.ls)]) b = some o := fun b o e hb => by rw [upd_ne hb]; exact e
  generalize hH8 : upd H7 p (.ins T.C_Form dx [("name", .str f.nm), ("patterns", .ref pt), ("lines", .ref ln), ("size", .int ((f.ps.map V.str).length : Nat)), ("letters", .ref lt), ("effect", firstL Ln.isE f.ls)]) = H8 at kp8 ⊢
  have hp8 : H8 p = some (.ins T.C_Form dx [("name", .str f.nm), ("patterns", .ref pt), ("lines", .ref ln), ("size", .int ((f.ps.map V.str).length : Nat)), ("letters", .ref lt), ("effect", firstL Ln.isE f.ls)]) := by rw [← hH8]; exact upd_same
  have k8 : ∀ b o, H b = some o → b ≠ p → H8 b = some o := fun b o e hb => kp8 _ _ (s7 _ _ (k6 _ _ e hb)) hb
  refine ⟨_, rfl, by show 1 ≤ sizeLine; decide, fun g hg => ?_⟩
  have s8 := same_new (o := .tup [.str "goto"]) hg
  refine ⟨ln, g, f.ls, Ln.isG, ["goto"], rfl, (lat _ k8).news s8, l12, SqT.of upd_same, fun l _ => nm_gto l, fun H9 s9 => ?_⟩
  have hp9 := s9 _ _ (s8 _ _ hp8)
  refine ⟨_, rfl, p, T.C_Form, dx, _, rfl, hp9, T.cl_Form, T.nA_Form_goto, by show 6 < 1000; decide, ?_⟩
  rw [put_form_6]
  have kp10 : ∀ b o, H9 b = some o → b ≠ p → upd H9 p (.ins T.C_Form dx [("name", .str f.nm), ("patterns", .ref pt), ("lines", .ref ln), ("size", .int ((f.ps.map V.str).length : Nat)), ("letters", .ref lt), ("effect", firstL Ln.isE f.ls), ("goto", firstL Ln.isG f.ls)]) b = some o := fun b o e hb => by rw [upd_ne hb]; exact e
  generalize hH10 : upd H9 p (.ins T.C_Form dx [("name", .str f.nm), ("patterns", .ref pt), ("lines", .ref ln), ("size", .int ((f.ps.map V.str).length : Nat)), ("letters", .ref lt), ("effect", firstL Ln.isE f.ls), ("goto", firstL Ln.isG f.ls)]) = H10 at kp10 ⊢
  have hp10 : H10 p = some (.ins T.C_Form dx [("name", .str f.nm), ("patterns", .ref pt), ("lines", .ref ln), ("size", .int ((f.ps.map V.str).length : Nat)), ("letters", .ref lt), ("effect", firstL Ln.isE f.ls), ("goto", firstL Ln.isG f.ls)]) := by rw [← hH10]; exact upd_same
  have k10 : ∀ b o, H b = some o → b ≠ p → H10 b = some o := fun b o e hb => kp10 _ _ (s9 _ _ (s8 _ _ (k8 _ _ e hb))) hb
  have hpt10 := k10 _ _ hpt ppt.symm
  refine ⟨_, rfl, pt, rfl, ⟨_, SqT.of hpt10⟩, fun D hD => ?_⟩
  refine lc_it (walk_tup (xs := f.ps.map V.str)) (fun i H1 => ∃ ts, Same H10 H1 ∧ H1 D = some (.lst ts) ∧ Refs H1 ts (f.ps.take i) FixA) ⟨[], same_new hD, upd_same, Refs.nil⟩ (fun i H1 _ ⟨_, s1, _⟩ => SqT.of (s1 _ _ hpt10)) ?_ ?_
  · rintro i x H1 H2 hi ⟨ts, s1, h1, r1⟩ ⟨rfl, hx⟩
    rw [List.getElem?_map] at hx
    obtain ⟨z, hz, rfl⟩ : ∃ z, f.ps[i]? = some z ∧ x = V.str z := by
      cases h : f.ps[i]? with
      | none => rw [h] at hx; cases hx
      | some z => rw [h] at hx; exact ⟨z, rfl, (Option.some.inj hx).symm⟩
    have sz : sizeLine = 16777216 := sizeLine_eq
    refine ⟨rfl, _, rfl, z, rfl, h64 z (List.mem_of_getElem? hz), fun H3 t s3 t0 ht => ⟨ts, s3 _ _ h1, ?_, ts ++ [.ref t], fun b o e => ?_, upd_same, ?_⟩⟩
    · rw [r1.1, List.length_take]; omega
    · have bD : b ≠ D := fun z => by rw [z, hD] at e; cases e
      rw [upd_ne bD]; exact s3 _ _ (s1 _ _ e)
    · have tD : t ≠ D := fun q => by rw [q, h1] at t0; cases t0
      rw [List.take_succ, hz]
      refine Refs.snoc (r1.map fun u q _ r => ?_) ?_
      · have uD : u ≠ D := ne_of r h1 (by intro z; cases z)
        show upd _ D _ u = _
        rw [upd_ne uD]; exact s3 _ _ r
      · show upd _ D _ t = _
        rw [upd_ne tD]; exact ht
  rintro H11 ⟨ts, s11, h11, r11⟩
  refine ⟨D, ts, rfl, SqL.of h11, fun fx hfx => ?_⟩
  have s12 := same_new (o := .tup ts) hfx
  have hp12 := s12 _ _ (s11 _ _ hp10)
  refine ⟨_, rfl, p, T.C_Form, dx, _, rfl, hp12, T.cl_Form, T.nA_Form_fixed, by show 7 < 1000; decide, ?_⟩
  rw [put_form_7]
  have pfx : p ≠ fx := ne_of_none (s11 _ _ hp10) hfx
  have kL : ∀ b o, H5 b = some o → b ≠ p → H10 b = some o := fun b o e hb => kp10 _ _ (s9 _ _ (s8 _ _ (kp8 _ _ (s7 _ _ (kp6 _ _ e hb)) hb))) hb
  refine k _ (fun b o e hb => ?_) ⟨dx, pt, ln, lt, fx, ?_, ?_, ?_, ?_, ?_⟩
  · rw [upd_ne hb]; exact s12 _ _ (s11 _ _ (k10 _ _ e hb))
  · rw [upd_same, List.length_map]; rfl
  · rw [upd_ne ppt.symm]; exact s12 _ _ (s11 _ _ hpt10)
  · exact lat _ fun b o e hb => by rw [upd_ne hb]; exact s12 _ _ (s11 _ _ (k10 _ _ e hb))
  · obtain ⟨us, u1, u2⟩ := hL
    refine ⟨us, by rw [upd_ne plt.symm]; exact s12 _ _ (s11 _ _ (kL _ _ u1 plt.symm)), u2.map fun u q _ r => ?_⟩
    have up : u ≠ p := ne_of r (s5 _ _ hp4) (by intro z; cases z)
    show upd _ p _ u = _
    rw [upd_ne up]; exact s12 _ _ (s11 _ _ (kL _ _ r up))
  · refine ⟨ts, by rw [upd_ne pfx.symm]; exact upd_same, ?_⟩
    rw [List.length_map, List.take_length] at r11
    refine r11.map fun u q _ r => ?_
    have up : u ≠ p := ne_of r (s11 _ _ hp10) (by intro z; cases z)
    show upd _ p _ u = _
    rw [upd_ne up]; exact s12 _ _ r
end
end My

/-! E -/
namespace My
open PySem L2
local macro_rules | `(tactic| walk_at "side") => `(tactic| first | with_reducible rfl | assumption | rfl | decide | omega | exact cpow1 (by omega) (by omega) | exact cdiv (by omega) (by omega) | exact two_pos _ | exact SqL.of (by assumption) | exact SqT.of (by assumption) | exact TyX.base (TyOf.int _) | exact TyX.base (TyOf.bl _) | exact TyX.base TyOf.non | exact scal_opt _ _ | exact k_ii | exact k_bi | exact k_ni | exact k_ib | exact k_bb | exact TyX.base (TyOf.lst (by assumption)) | exact k_ll | exact k_lt)
local macro_rules | `(tactic| walk_at "p") => `(tactic| repeat (first | refine And.intro (by walk_at "side") ?_ | apply Exists.intro | refine iteN (by assumption) ?_ | refine iteP (by assumption) ?_ | refine iteN (by decide) ?_ | refine iteP (by decide) ?_))

def sgnL : List Nat := [114, 118, 105, 112, 113, 99]
def lfL (c : Nat) : List Nat := if c = 114 then [97, 98, 99] else if c = 118 then [109, 110] else []
def lfS (c : Nat) : Str := if c = 114 then "abc" else if c = 118 then "mn" else ""
theorem lfS_l (c : Nat) : (lfS c).cps.toList = lfL c := by
  unfold lfS lfL
  by_cases h : c = 114
  · rw [if_pos h, if_pos h]; decide
  · rw [if_neg h, if_neg h]
    by_cases h : c = 118
    · rw [if_pos h, if_pos h]; decide
    · rw [if_neg h, if_neg h]; decide
def lgV (L : List Nat) (c : Nat) : List V := ((lfL c).filter fun x => decide (x ∈ L)).map fun x => V.str (sg x)
/-- a grammar for registers r, words of w bits, letters L -/
def GramAt (C : Addr) (H : Hp) (g : Addr) (w r : Nat) (L : List Nat) : Prop := ∃ dx dl dn kl q1 q2 q3 q4 q5, H g = some (.ins C dx [("letters", .ref dl), ("numbers", .ref dn)]) ∧
  H dl = some (.dK kl) ∧ (∀ c ∈ sgnL, ∃ q, valV kl (.inr (sg c)) = some (V.ref q) ∧ H q = some (.lst (lgV L c))) ∧
  H dn = some (.dK [(.inr "r", .ref q1), (.inr "v", .ref q2), (.inr "p", .ref q3), (.inr "q", .ref q4), (.inr "c", .ref q5)]) ∧
  H q1 = some (.lst (rgV 0 r)) ∧ H q2 = some (.lst (rgV 0 (1 * 2 ^ (w : Int).toNat))) ∧ H q3 = some (.lst (rgV 0 6)) ∧ H q4 = some (.lst (rgV 0 10)) ∧ H q5 = some (.lst (rgV 12 16))
theorem GramAt.news {C : Addr} {H H' : Hp} {g : Addr} {w r : Nat} {L : List Nat} (h : GramAt C H g w r L) (s : Same H H') : GramAt C H' g w r L := by
  obtain ⟨dx, dl, dn, kl, q1, q2, q3, q4, q5, h1, h2, h3, h4, h5, h6, h7, h8, h9⟩ := h
  exact ⟨dx, dl, dn, kl, q1, q2, q3, q4, q5, s _ _ h1, s _ _ h2, fun c hc => let ⟨q, e1, e2⟩ := h3 c hc; ⟨q, e1, s _ _ e2⟩, s _ _ h4, s _ _ h5, s _ _ h6, s _ _ h7, s _ _ h8, s _ _ h9⟩
theorem inSg (c : Nat) : ∀ L : List Nat, inV (V.str (sg c)) (L.map fun x => V.str (sg x)) = decide (c ∈ L)
  | [] => rfl
  | x :: r => by
    have ih := inSg c r
    unfold inV at ih ⊢
    rw [List.map_cons, List.any_cons, ih]
    show (decide ((sg x : Str) = sg c) || _) = _
    rw [sgS]
    by_cases h : x = c
    · subst h; simp
    · have h' : c ≠ x := fun e => h e.symm
      simp [h, h']
section
variable {P : Program} {w : World} {K : PySem.W.Frag} {mg : Str → Option Value} {base : Heap}
def sp_letters_for (_ : Txt w K mg) : Sp := fun vs H Q _ => ∃ c : Nat, vs = [.str (sg c)] ∧ Q (.str (lfS c)) H
theorem sp_letters_for_len {T : Txt w K mg} {vs H Q E} (h : sp_letters_for T vs H Q E) : vs.length = 1 := by obtain ⟨_, rfl, _⟩ := h; rfl
theorem ok_letters_for (T : Txt w K mg) : FnOk P w K mg base CX0 1 T.f_letters_for T.fd_letters_for ["sign"] (sp_letters_for T) := by
  skip
  refine T.F_letters_for.ok sc_letters_for (fun vs H Q E h => sp_letters_for_len h) (fun cdv A outer s H vs Q E hr h => ?_)
  obtain ⟨c, rfl, k⟩ := h
  refine ⟨_, (pss_cons (ps_if (pt_cmpR op_eq (pv 0) pe_str (nomark _))
        (pss_one (ps_ret (pe_glob (v := .str "abc") rfl T.c_REGISTER_LETTERS ⟨_, rfl⟩)))
        pss_nil)
       (pss_one (ps_ret (pe_ifExp (pt_cmpR op_eq (pv 0) pe_str (nomark _)) (pe_glob (v := .str "mn") rfl T.c_NUMBER_LETTERS ⟨_, rfl⟩) pe_str)))), ?_⟩
  unfold lfS at k
  refine ⟨_, rfl, rfl, _, rfl, ?_⟩
  rw [show decide (V.str (sg c) = V.str "r") = decide (c = 114) from sgV' (a := c) (b := 114)]
  refine ite2d (fun h => ?_) fun h => ?_
  · rw [if_pos h] at k; exact k
  rw [if_neg h] at k
  refine ⟨_, rfl, rfl, _, rfl, ?_⟩
  rw [show decide (V.str (sg c) = V.str "v") = decide (c = 118) from sgV' (a := c) (b := 118)]
  refine ite2d (fun h => ?_) fun h => ?_
  · rw [if_pos h] at k; exact k
  · rw [if_neg h] at k; exact k
def sp_Grammar_init (T : Txt w K mg) : Sp := fun vs H Q _ => ∃ (p dx lt : Addr) (L : List (Nat × Nat)) (n r : Nat), vs = [.ref p, .int (n : Nat), .int (r : Nat), .ref lt] ∧ H p = some (.ins T.C_Grammar dx []) ∧ LettersAt H lt L ∧ L.length ≤ 5 ∧ n ≤ 16 ∧ r ≤ 16 ∧
  ∀ H', (∀ b o, H b = some o → b ≠ p → H' b = some o) → GramAt T.C_Grammar H' p n r (L.map Prod.fst) → Q .non H'
theorem sp_Grammar_init_len {T : Txt w K mg} {vs H Q E} (h : sp_Grammar_init T vs H Q E) : vs.length = 4 := by obtain ⟨_, _, _, _, _, _, rfl, _⟩ := h; rfl
theorem ok_Grammar_init (T : Txt w K mg) : FnOk P w K mg base CX0 2 T.f_Grammar_init T.fd_Grammar_init ["self", "word", "registers", "letters"] (sp_Grammar_init T) := by
  have G_letters_for := ok_letters_for (P := P) (w := w) (base := base) T
  refine T.F_Grammar_init.ok sc_Grammar_init (fun vs H Q E h => sp_Grammar_init_len h) (fun cdv A outer s H vs Q E hr h => ?_)
  obtain ⟨p, dx, lt, L, n, r, rfl, hp, hL, h5, hn, hr', k⟩ := h
  refine ⟨_, (pss_cons (ps_set (i := 4) sc_Grammar_init.nd rfl (Or.inr rfl) (pe_lc (own := [("letter", 5), ("_", 6)]) rfl sc_Grammar_init.nd (pi_tup (pv 3)) (blkOk_by (N := ["self", "word", "registers", "letters", "own", "letter", "_", "sign", "one"]) (sc := defScope s_Grammar_init) (by decide +kernel)) (fun _ _ _ _ _ => by (apply pg_tr; exact (pg_tup (n := 2) rfl (pgs_cons (pg_name (i := 5) sc_Grammar_init.nd rfl (Or.inl rfl)) (pgs_cons (pg_name (i := 6) sc_Grammar_init.nd rfl (Or.inl rfl)) pgs_nil))); (try dsimp only [Cx.blk]) <;> exact rfl)) (fun _ _ _ _ _ => by (apply pts_tr; exact pts_nil; (try dsimp only [Cx.blk]) <;> exact rfl)) (fun _ _ _ _ _ => by (apply pe_tr; exact (pv 5); (try dsimp only [Cx.blk]) <;> exact rfl))))
       (pss_cons (ps_fld (pv 0) (pe_dc (own := [("sign", 7)]) rfl sc_Grammar_init.nd (pi_str pe_str) (blkOk_by (N := ["self", "word", "registers", "letters", "own", "letter", "_", "sign", "one"]) (sc := defScope s_Grammar_init) (by decide +kernel)) (fun _ _ _ _ _ => by (apply pg_tr; exact pg_name (i := 7) sc_Grammar_init.nd rfl (Or.inl rfl); (try dsimp only [Cx.blk]) <;> exact rfl)) (fun _ _ _ _ _ => by (apply pts_tr; exact pts_nil; (try dsimp only [Cx.blk]) <;> exact rfl)) (fun _ _ _ _ _ => by (apply pe_tr; exact (pv 7); (try dsimp only [Cx.blk]) <;> exact rfl)) (fun _ _ _ _ _ => by (apply pe_tr; exact (pe_lc (own := [("one", 8)]) rfl sc_Grammar_init.nd (pi_str (pe_call G_letters_for hr rfl T.g_letters_for T.F_letters_for.kp T.b_letters_for .nil pass0 (pa_cons (pv 7) pa_nil))) (blk_rel (blkOk_by (N := ["self", "word", "registers", "letters", "own", "letter", "_", "sign", "one"]) (sc := cscope (asgV ((defBody s_Grammar_init).getD 1 (.Pass ⟨0, 0, 0, 0⟩)))) (by decide +kernel))) (fun _ _ _ _ _ => by (apply pg_tr; exact pg_name (i := 8) sc_Grammar_init.nd rfl (Or.inl rfl); (try dsimp only [Cx.blk]) <;> exact rfl)) (fun _ _ _ _ _ => by (apply pts_tr; exact (pts_one (pt_cmpR op_in_seq (pv 8) (pv 4) (by rfl))); (try dsimp only [Cx.blk]) <;> exact rfl)) (fun _ _ _ _ _ => by (apply pe_tr; exact (pv 8); (try dsimp only [Cx.blk]) <;> exact rfl))); (try dsimp only [Cx.blk]) <;> exact rfl))) rfl)
       (pss_one (ps_fld (pv 0) (pe_disp (pps_cons pe_str (pe_listRg rfl rfl T.n_list (prg_1 (by rfl) T.n_range (pv 2))) (pps_cons pe_str (pe_listRg rfl rfl T.n_list (prg_1 (by rfl) T.n_range (pe_op op_shl pe_int (pv 1)))) (pps_cons pe_str (pe_listRg rfl rfl T.n_list (prg_1 (by rfl) T.n_range pe_int)) (pps_cons pe_str (pe_listRg rfl rfl T.n_list (prg_1 (by rfl) T.n_range pe_int)) (pps_cons pe_str (pe_listRg rfl rfl T.n_list (prg_2 (by rfl) T.n_range pe_int pe_int)) pps_nil))))) rfl rfl (by intro z; cases z) (by decide)) rfl)))), ?_⟩
  obtain ⟨ts, hts, hR⟩ := hL
  have sz : sizeLine = 16777216 := sizeLine_eq
  refine ⟨_, rfl, lt, rfl, ⟨_, SqT.of hts⟩, fun D hD => ?_⟩
  refine lc_it (walk_tup (xs := ts)) (fun i H1 => Same H H1 ∧ H1 D = some (.lst (((L.map Prod.fst).take i).map fun x => V.str (sg x)))) ⟨same_new hD, upd_same⟩ (fun i H1 _ ⟨s1, _⟩ => SqT.of (s1 _ _ hts)) ?_ ?_
  · rintro i x H1 H2 hi ⟨s1, h1⟩ ⟨rfl, hx⟩
    obtain ⟨u, q, hq, hu, hr⟩ := hR.at (i := i) (by rw [← hR.1]; exact hi)
    rw [hu] at hx
    cases hx
    have l5 := hR.1
    refine ⟨u, _, rfl, SqT.of (s1 _ _ hr), rfl, _, _, rfl, _, _, rfl, rfl, rfl, _, rfl, _, h1, ?_, fun b o e => ?_, ?_⟩
    · rw [List.length_map]
      refine Nat.lt_of_le_of_lt (List.length_take_le' _ _) ?_
      rw [List.length_map]; omega
    · have bD : b ≠ D := fun z => by rw [z, hD] at e; cases e
      rw [upd_ne bD]; exact s1 _ _ e
    · rw [upd_same, List.take_succ, List.getElem?_map, hq, List.map_append]; rfl
  rintro H1 ⟨s1, h1⟩
  rw [List.take_of_length_le (by rw [List.length_map]; have := hR.1; omega)] at h1
  refine ⟨_, rfl, fun D2 hD2 => ?_⟩
  refine dc_it walk_str (fun i H2 => Same H1 H2 ∧ ∃ kvs, H2 D2 = some (.dK kvs) ∧ kvs.length ≤ i ∧ ∀ (j c : Nat), j < i → sgnL[j]? = some c → ∃ q, valV kvs (.inr (sg c)) = some (V.ref q) ∧ H2 q = some (.lst (lgV (L.map Prod.fst) c))) ⟨same_new hD2, _, upd_same, Nat.le_refl _, fun j c h => absurd h (Nat.not_lt_zero _)⟩ (fun _ _ _ _ => trivial) ?_ ?_
  · rintro i x H2 H3 hi ⟨s2, kvs, h2, l2, hv⟩ ⟨rfl, c, hc, rfl⟩
    have l6 : i < 6 := hi
    have hci : sgnL[i]? = some c := by
      rw [← Array.getElem?_toList] at hc
      exact hc
    refine ⟨rfl, _, rfl, _, rfl, c, rfl, ?_⟩
    refine ⟨_, rfl, fun D3 hD3 => ?_⟩
    refine lc_it walk_str (fun j H4 => Same H3 H4 ∧ H4 D3 = some (.lst ((((lfL c).take j).filter fun x => decide (x ∈ L.map Prod.fst)).map fun x => V.str (sg x)))) ⟨same_new hD3, upd_same⟩ (fun _ _ _ _ => trivial) ?_ ?_
    · rintro j y H4 H5 hj ⟨s4, h4⟩ ⟨rfl, c', hc', rfl⟩
      rw [← Array.getElem?_toList, lfS_l] at hc'
      refine ⟨rfl, _, rfl, _, rfl, D, _, rfl, .inl (SqL.of (s4 _ _ (s2 _ _ h1))), rfl, ?_, ?_⟩
      · rw [List.all_map]; exact List.all_eq_true.mpr fun _ _ => rfl
      have hlen : ((((lfL c).take j).filter fun x => decide (x ∈ L.map Prod.fst)).map fun x => V.str (sg x)).length < sizeLine := by
        rw [List.length_map]
        refine Nat.lt_of_le_of_lt (List.length_filter_le _ _) (Nat.lt_of_le_of_lt (List.length_take_le' _ _) ?_)
        unfold lfL
        split
        · show 3 < _; omega
        · split
          · show 2 < _; omega
          · show 0 < _; omega
      have etk : (lfL c).take (j + 1) = (lfL c).take j ++ [c'] := by rw [List.take_succ, hc']; rfl
      refine ⟨_, rfl, ?_⟩
      rw [show inV (V.str ⟨#[c']⟩) ((L.map Prod.fst).map fun x => V.str (sg x)) = decide (c' ∈ L.map Prod.fst) from inSg c' _]
      refine iteB (fun (cc : decide (c' ∈ L.map Prod.fst) = true) => ?_) fun (cc : decide (c' ∈ L.map Prod.fst) = false) => ?_
      · refine ⟨_, rfl, _, h4, hlen, fun b o e => ?_, ?_⟩
        · have bD : b ≠ D3 := fun z => by rw [z, hD3] at e; cases e
          rw [upd_ne bD]; exact s4 _ _ e
        · rw [upd_same, etk, List.filter_append, List.map_append]
          have : [c'].filter (fun x => decide (x ∈ L.map Prod.fst)) = [c'] := List.filter_cons_of_pos (p := fun x => decide (x ∈ L.map Prod.fst)) cc
          rw [this]; rfl
      · refine ⟨s4, ?_⟩
        rw [etk, List.filter_append, List.map_append]
        have : [c'].filter (fun x => decide (x ∈ L.map Prod.fst)) = [] := List.filter_cons_of_neg (p := fun x => decide (x ∈ L.map Prod.fst)) (by show ¬ decide (c' ∈ L.map Prod.fst) = true; rw [cc]; decide)
        rw [this, List.map_nil, List.append_nil]
        exact h4
    · rintro H4 ⟨s4, h4⟩
      have e4 : (lfL c).take (lfS c).cps.size = lfL c := List.take_of_length_le (by rw [← lfS_l, Array.length_toList]; exact Nat.le_refl _)
      rw [e4] at h4
      have D23 : D3 ≠ D2 := fun z => by rw [z, h2] at hD3; cases hD3
      refine ⟨kvs, .inr ⟨#[c]⟩, rfl, s4 _ _ h2, by omega, fun b o e => ?_, _, upd_same, ?_, fun j c'' hj hc'' => ?_⟩
      · have bD : b ≠ D2 := fun z => by rw [z, hD2] at e; cases e
        rw [upd_ne bD]; exact s4 _ _ (s2 _ _ e)
      · have := length_putK kvs (.inr ⟨#[c]⟩) (V.ref D3); omega
      · rw [valV_put]
        by_cases e : c'' = c
        · subst e
          exact ⟨D3, if_pos rfl, by rw [upd_ne D23]; exact h4⟩
        · have hj' : j < i := by
            rcases Nat.lt_or_ge j i with h | h
            · exact h
            · have : j = i := by omega
              rw [this, hci] at hc''
              exact absurd (Option.some.inj hc'').symm e
          obtain ⟨q, e1, e2⟩ := hv j c'' hj' hc''
          have qD : q ≠ D2 := fun z => by rw [z, h2] at e2; cases e2
          refine ⟨q, ?_, by rw [upd_ne qD]; exact s4 _ _ e2⟩
          rw [if_neg (show ¬ ((Sum.inr (sg c'') : Key) = .inr ⟨#[c]⟩) from fun z => e (sg_inj'.mp z))]
          exact e1
  · rintro H2 ⟨s2, kvs, h2, l2, hv⟩
    refine ⟨_, rfl, p, _, _, _, rfl, s2 _ _ (s1 _ _ hp), T.cl_Grammar, T.nA_Grammar_letters, by decide, ?_⟩
    rw [show putF "letters" (V.ref D2) [] = [(("letters" : Str), V.ref D2)] from rfl]
    have kp : ∀ b o, H b = some o → b ≠ p → upd H2 p (.ins T.C_Grammar dx [("letters", .ref D2)]) b = some o := fun b o e hb => by rw [upd_ne hb]; exact s2 _ _ (s1 _ _ e)
    have pD2 : D2 ≠ p := fun z => by rw [z] at h2; have := s2 _ _ (s1 _ _ hp); rw [h2] at this; cases this
    have hv3 : ∀ c ∈ sgnL, ∃ q, valV kvs (.inr (sg c)) = some (V.ref q) ∧ upd H2 p (.ins T.C_Grammar dx [("letters", .ref D2)]) q = some (.lst (lgV (L.map Prod.fst) c)) := fun c hc => by
      obtain ⟨j, hj⟩ := List.getElem?_of_mem hc
      have hj6 := (List.getElem?_eq_some_iff.mp hj).1
      obtain ⟨q, e1, e2⟩ := hv j c hj6 hj
      have qp : q ≠ p := fun z => by rw [z] at e2; have := s2 _ _ (s1 _ _ hp); rw [e2] at this; cases this
      exact ⟨q, e1, by rw [upd_ne qp]; exact e2⟩
    have h23 : upd H2 p (.ins T.C_Grammar dx [("letters", .ref D2)]) D2 = some (.dK kvs) := by rw [upd_ne pD2]; exact h2
    generalize hH3 : upd H2 p (.ins T.C_Grammar dx [("letters", .ref D2)]) = H3 at kp hv3 h23 ⊢
    have hp3 : H3 p = some (.ins T.C_Grammar dx [("letters", .ref D2)]) := by rw [← hH3]; exact upd_same
    have pw : 2 ^ n ≤ 2 ^ 16 := Nat.pow_le_pow_right (by decide) hn
    have pI : ((2 ^ n : Nat) : Int) = 2 ^ n := Int.natCast_pow 2 n
    have p0 : (0 : Int) ≤ 2 ^ n := by rw [← pI]; exact Int.natCast_nonneg _
    have p1 : (2 : Int) ^ n ≤ 65536 := by rw [← pI]; exact Int.ofNat_le.mpr (Nat.le_trans pw (by decide))
    intro q hq
    have s4 : Same H3 (upd H3 q (.dK [])) := same_new hq
    refine ⟨_, rfl, _, rfl, RgOk.of_le (by omega) (by omega) (by omega) (by omega), fun q1 e1 => ?_⟩
    refine ⟨_, rfl, _, _, rfl, rfl, cpow1 (by omega) (by omega), _, rfl, RgOk.of_le (by omega) ?_ (by omega) ?_, fun q2 e2 => ?_⟩
    · rw [Int.one_mul, Int.toNat_natCast]; omega
    · rw [Int.one_mul, Int.toNat_natCast]; omega
    refine ⟨_, rfl, RgOk.of_le (by decide) (by decide) (by decide) (by decide), fun q3 e3 => ?_⟩
    refine ⟨_, rfl, RgOk.of_le (by decide) (by decide) (by decide) (by decide), fun q4 e4 => ?_⟩
    refine ⟨_, _, rfl, rfl, RgOk.of_le (by decide) (by decide) (by decide) (by decide), fun q5 e5 => ?_⟩
    have S5 : Same (upd H3 q (.dK [])) (upd (upd (upd (upd (upd (upd H3 q (.dK [])) q1 (.lst (rgV 0 r))) q2 (.lst (rgV 0 (1 * 2 ^ (n : Int).toNat)))) q3 (.lst (rgV 0 6))) q4 (.lst (rgV 0 10))) q5 (.lst (rgV 12 16))) := ((((same_new e1).trans (same_new e2)).trans (same_new e3)).trans (same_new e4)).trans (same_new e5)
    refine ⟨S5 _ _ upd_same, [(.inr "r", .ref q1), (.inr "v", .ref q2), (.inr "p", .ref q3), (.inr "q", .ref q4), (.inr "c", .ref q5)], rfl, by show 5 ≤ 15; decide, ?_⟩
    have pq : p ≠ q := ne_of_none hp3 hq
    have n1 : q1 ≠ q := fun z => by rw [z, upd_same] at e1; cases e1
    have n2 : q2 ≠ q := fun z => by rw [z, (same_new e1) _ _ upd_same] at e2; cases e2
    have n3 : q3 ≠ q := fun z => by rw [z, ((same_new e1).trans (same_new e2)) _ _ upd_same] at e3; cases e3
    have n4 : q4 ≠ q := fun z => by rw [z, (((same_new e1).trans (same_new e2)).trans (same_new e3)) _ _ upd_same] at e4; cases e4
    have n5 : q5 ≠ q := fun z => by rw [z, ((((same_new e1).trans (same_new e2)).trans (same_new e3)).trans (same_new e4)) _ _ upd_same] at e5; cases e5
    have a5 : (upd (upd (upd (upd (upd (upd H3 q (.dK [])) q1 (.lst (rgV 0 r))) q2 (.lst (rgV 0 (1 * 2 ^ (n : Int).toNat)))) q3 (.lst (rgV 0 6))) q4 (.lst (rgV 0 10))) q5 (.lst (rgV 12 16))) q5 = some (.lst (rgV 12 16)) := upd_same
    have a4 := same_new (o := .lst (rgV 12 16)) e5 _ _ (show (upd (upd (upd (upd (upd H3 q (.dK [])) q1 (.lst (rgV 0 r))) q2 (.lst (rgV 0 (1 * 2 ^ (n : Int).toNat)))) q3 (.lst (rgV 0 6))) q4 (.lst (rgV 0 10))) q4 = some (.lst (rgV 0 10)) from upd_same)
    have a3 := ((same_new (o := .lst (rgV 0 10)) e4).trans (same_new (o := .lst (rgV 12 16)) e5)) _ _ (show (upd (upd (upd (upd H3 q (.dK [])) q1 (.lst (rgV 0 r))) q2 (.lst (rgV 0 (1 * 2 ^ (n : Int).toNat)))) q3 (.lst (rgV 0 6))) q3 = some (.lst (rgV 0 6)) from upd_same)
    have a2 := (((same_new (o := .lst (rgV 0 6)) e3).trans (same_new (o := .lst (rgV 0 10)) e4)).trans (same_new (o := .lst (rgV 12 16)) e5)) _ _ (show (upd (upd (upd H3 q (.dK [])) q1 (.lst (rgV 0 r))) q2 (.lst (rgV 0 (1 * 2 ^ (n : Int).toNat)))) q2 = some (.lst (rgV 0 (1 * 2 ^ (n : Int).toNat))) from upd_same)
    have a1 := ((((same_new (o := .lst (rgV 0 (1 * 2 ^ (n : Int).toNat))) e2).trans (same_new (o := .lst (rgV 0 6)) e3)).trans (same_new (o := .lst (rgV 0 10)) e4)).trans (same_new (o := .lst (rgV 12 16)) e5)) _ _ (show (upd (upd H3 q (.dK [])) q1 (.lst (rgV 0 r))) q1 = some (.lst (rgV 0 r)) from upd_same)
    generalize (upd (upd (upd (upd (upd (upd H3 q (.dK [])) q1 (.lst (rgV 0 r))) q2 (.lst (rgV 0 (1 * 2 ^ (n : Int).toNat)))) q3 (.lst (rgV 0 6))) q4 (.lst (rgV 0 10))) q5 (.lst (rgV 12 16))) = H4 at S5 a1 a2 a3 a4 a5 ⊢
    refine ⟨_, rfl, p, _, _, _, rfl, by rw [upd_ne pq]; exact S5 _ _ (s4 _ _ hp3), T.cl_Grammar, T.nA_Grammar_numbers, by show 1 < 1000; decide, ?_⟩
    have hp4 := S5 _ _ (s4 _ _ hp3)
    have up : ∀ b o xs, H4 b = some (.lst xs) → b ≠ q → upd (upd H4 q (.dK [(.inr "r", .ref q1), (.inr "v", .ref q2), (.inr "p", .ref q3), (.inr "q", .ref q4), (.inr "c", .ref q5)])) p o b = some (.lst xs) := fun b o xs e hb => by
      have bp : b ≠ p := fun z => by rw [z, hp4] at e; cases e
      rw [upd_ne bp, upd_ne hb]; exact e
    refine k _ (fun b o e hb => ?_) ⟨dx, D2, q, kvs, q1, q2, q3, q4, q5, ?_, ?_, fun c hc => ?_, ?_, up _ _ _ a1 n1, up _ _ _ a2 n2, up _ _ _ a3 n3, up _ _ _ a4 n4, up _ _ _ a5 n5⟩
    · have e3' := kp b o e hb
      rw [upd_ne hb, upd_ne (ne_of_none e3' hq)]
      exact S5 _ _ (s4 _ _ e3')
    · rw [upd_same]; rfl
    · rw [upd_ne pD2, upd_ne (ne_of_none h23 hq)]; exact S5 _ _ (s4 _ _ h23)
    · obtain ⟨q', e1', e2'⟩ := hv3 c hc
      refine ⟨q', e1', ?_⟩
      have : q' ≠ p := fun z => by rw [z, hp3] at e2'; cases e2'
      rw [upd_ne this, upd_ne (ne_of_none e2' hq)]; exact S5 _ _ (s4 _ _ e2')
    · rw [upd_ne pq.symm, upd_same]; rfl
end
end My

/-! E2 -/
namespace My
open PySem L2
local macro_rules | `(tactic| walk_at "side") => `(tactic| first | with_reducible rfl | assumption | rfl | decide | omega | exact cpow1 (by omega) (by omega) | exact cdiv (by omega) (by omega) | exact two_pos _ | exact SqL.of (by assumption) | exact SqT.of (by assumption) | exact TyX.base (TyOf.int _) | exact TyX.base (TyOf.bl _) | exact TyX.base TyOf.non | exact scal_opt _ _ | exact k_ii | exact k_bi | exact k_ni | exact k_ib | exact k_bb | exact TyX.base (TyOf.lst (by assumption)) | exact k_ll | exact k_lt)
local macro_rules | `(tactic| walk_at "p") => `(tactic| repeat (first | refine And.intro (by walk_at "side") ?_ | apply Exists.intro | refine iteN (by assumption) ?_ | refine iteP (by assumption) ?_ | refine iteN (by decide) ?_ | refine iteP (by decide) ?_))

/-- what an entry may be, by its sign -/
def entS (w r : Nat) (L vs : List Nat) (c : Nat) (x : V) : Prop :=
  (∃ a, x = .str (sg a) ∧ a ∈ L ∧ a ∈ lfL c ∧ c ∈ sgnL) ∨
  ∃ i : Nat, x = .int (i : Nat) ∧ ((c = 105 ∧ i ∈ vs) ∨ (c = 114 ∧ i < r) ∨ (c = 118 ∧ i < 2 ^ w) ∨ (c = 112 ∧ i < 6) ∨ (c = 113 ∧ i < 10) ∨ (c = 99 ∧ 12 ≤ i ∧ i < 16))
theorem lgV_flat (L : List Nat) (c : Nat) : (lgV L c).all flatV = true := by unfold lgV; rw [List.all_map]; exact List.all_eq_true.mpr fun _ _ => rfl
section
variable {P : Program} {w : World} {K : PySem.W.Frag} {mg : Str → Option Value} {base : Heap}
def sp_Grammar_is_entry (T : Txt w K mg) : Sp := fun vs H Q _ => ∃ (g va : Addr) (n r c : Nat) (L N : List Nat) (x : V), vs = [.ref g, .str (sg c), x, .ref va] ∧ GramAt T.C_Grammar H g n r L ∧ H va = some (.lst (natsV N)) ∧ entS n r L N c x ∧ Q (.bl true) H
theorem sp_Grammar_is_entry_len {T : Txt w K mg} {vs H Q E} (h : sp_Grammar_is_entry T vs H Q E) : vs.length = 4 := by obtain ⟨_, _, _, _, _, _, _, _, rfl, _⟩ := h; rfl
theorem ok_Grammar_is_entry (T : Txt w K mg) : FnOk P w K mg base CX0 2 T.f_Grammar_is_entry T.fd_Grammar_is_entry ["self", "sign", "entry", "values"] (sp_Grammar_is_entry T) := by
  have G_is_int := ok_is_int (P := P) (w := w) (base := base) T
  refine T.F_Grammar_is_entry.ok sc_Grammar_is_entry (fun vs H Q E h => sp_Grammar_is_entry_len h) (fun cdv A outer s H vs Q E hr h => ?_)
  obtain ⟨g, va, n, r, c, L, N, x, rfl, hG, hva, hx, k⟩ := h
  obtain ⟨dx, dl, dn, kl, q1, q2, q3, q4, q5, h1, h2, h3, h4, h5, h6, h7, h8, h9⟩ := hG
  refine ⟨_, (pss_cons (ps_if (pt_val (pe_callB call_isTy (by rfl) T.n_isinstance (by decide +kernel) (pa_cons (pv 2) (pa_cons (pe_bltn (v := .ty "str") (by rfl) T.n_str (by decide +kernel) rfl) pa_nil))))
        (pss_one (ps_ret (pe_cmpR op_in_seq (pv 2) (pe_dget (hu_of hr) (pe_fldA (pv 0)) (pv 1) (fun _ _ => rfl)) (by rfl))))
        pss_nil)
       (pss_one (ps_ret (pe_and (pe_call G_is_int hr rfl T.g_is_int T.F_is_int.kp T.b_is_int .nil pass0 (pa_cons (pv 2) pa_nil)) (pe_one (pe_cmpR op_in_seq (pv 2) (pe_ifExp (pt_cmpR op_eq (pv 1) pe_str (nomark _)) (pv 3) (pe_dget (hu_of hr) (pe_fldA (pv 0)) (pv 1) (fun _ _ => rfl))) (by rfl))))))), ?_⟩
  rcases hx with ⟨a, rfl, aL, al, cs⟩ | ⟨i, rfl, hi⟩
  · refine ⟨_, rfl, _, _, _, rfl, ty4 (x := .str (sg a)) rfl, _, k_4s (x := .str (sg a)) rfl, _, rfl, iteP rfl ?_⟩
    obtain ⟨q, e1, e2⟩ := h3 c cs
    refine ⟨_, rfl, _, rfl, g, T.C_Grammar, dx, _, _, rfl, h1, T.cl_Grammar, T.nA_Grammar_letters, by rw [lk, if_pos rfl], _, rfl, dl, .ref q, rfl, .inl ⟨_, .inr (sg c), Rd.of h2, rfl, e1.symm⟩, q, _, rfl, .inl (SqL.of e2), rfl, lgV_flat L c, ?_⟩
    have : inV (V.str (sg a)) (lgV L c) = true := inV_mem (by unfold lgV; exact List.mem_map.mpr ⟨a, List.mem_filter.mpr ⟨al, decide_eq_true aL⟩, rfl⟩) (by simp [eqV])
    rw [if_neg (by decide), this]
    exact k
  · refine ⟨_, rfl, _, _, _, rfl, ty4 (x := .int (i : Nat)) rfl, _, k_4s (x := .int (i : Nat)) rfl, _, rfl, iteN (by intro z; cases z) ?_⟩
    refine ⟨_, rfl, _, rfl, rfl, _, rfl, iteP rfl ?_⟩
    have fin : ∀ (q : Addr) (xs : List V), H q = some (.lst xs) → xs.all flatV = true → V.int (i : Nat) ∈ xs → rIn K false (V.int (i : Nat)) (.ref q) H Q := fun q xs hq hf hm => by
      refine ⟨q, xs, rfl, .inl (SqL.of hq), rfl, hf, ?_⟩
      have : inV (V.int (i : Nat)) xs = true := inV_mem hm (by simp [eqV])
      rw [if_neg (by decide), this]
      exact k
    have dg : ∀ (z : Str) (q : Addr), valV [((.inr "r" : Key), V.ref q1), (.inr "v", .ref q2), (.inr "p", .ref q3), (.inr "q", .ref q4), (.inr "c", .ref q5)] (.inr z) = some (.ref q) → DGet H dn (V.str z) (some (V.ref q)) := fun z q e => .inl ⟨_, .inr z, Rd.of h4, rfl, e.symm⟩
    refine ⟨_, rfl, _, rfl, rfl, _, rfl, ?_⟩
    rw [show decide (V.str (sg c) = V.str "i") = decide (c = 105) from sgV' (a := c) (b := 105)]
    refine ite2d (fun e => ?_) fun e => ?_
    · have hm : i ∈ N := by
        rcases hi with h | h | h | h | h | h
        · exact h.2
        all_goals (exfalso; omega)
      exact ⟨_, rfl, fin _ _ hva (natsV_flat N) (List.mem_map.mpr ⟨i, hm, rfl⟩)⟩
    · rcases hi with ⟨h, _⟩ | ⟨rfl, h⟩ | ⟨rfl, h⟩ | ⟨rfl, h⟩ | ⟨rfl, h⟩ | ⟨rfl, h, h'⟩
      · exact absurd h e
      · exact ⟨_, rfl, g, T.C_Grammar, dx, _, _, rfl, h1, T.cl_Grammar, T.nA_Grammar_numbers, by rw [lk, if_neg (by decide +kernel), lk, if_pos rfl], _, rfl, dn, .ref q1, rfl, dg _ _ (by rfl), fin _ _ h5 (rgV_flat _ _) (mem_rgV (by omega) (by omega))⟩
      · have e2 : ((2 ^ n : Nat) : Int) = 2 ^ n := Int.natCast_pow 2 n
        exact ⟨_, rfl, g, T.C_Grammar, dx, _, _, rfl, h1, T.cl_Grammar, T.nA_Grammar_numbers, by rw [lk, if_neg (by decide +kernel), lk, if_pos rfl], _, rfl, dn, .ref q2, rfl, dg _ _ (by rfl), fin _ _ h6 (rgV_flat _ _) (mem_rgV (by omega) (by rw [Int.one_mul, Int.toNat_natCast]; omega))⟩
      · exact ⟨_, rfl, g, T.C_Grammar, dx, _, _, rfl, h1, T.cl_Grammar, T.nA_Grammar_numbers, by rw [lk, if_neg (by decide +kernel), lk, if_pos rfl], _, rfl, dn, .ref q3, rfl, dg _ _ (by rfl), fin _ _ h7 (rgV_flat _ _) (mem_rgV (by omega) (by omega))⟩
      · exact ⟨_, rfl, g, T.C_Grammar, dx, _, _, rfl, h1, T.cl_Grammar, T.nA_Grammar_numbers, by rw [lk, if_neg (by decide +kernel), lk, if_pos rfl], _, rfl, dn, .ref q4, rfl, dg _ _ (by rfl), fin _ _ h8 (rgV_flat _ _) (mem_rgV (by omega) (by omega))⟩
      · exact ⟨_, rfl, g, T.C_Grammar, dx, _, _, rfl, h1, T.cl_Grammar, T.nA_Grammar_numbers, by rw [lk, if_neg (by decide +kernel), lk, if_pos rfl], _, rfl, dn, .ref q5, rfl, dg _ _ (by rfl), fin _ _ h9 (rgV_flat _ _) (mem_rgV (by omega) (by omega))⟩
end
end My

/-! E3 -/
namespace My
open PySem L2
local macro_rules | `(tactic| walk_at "side") => `(tactic| first | with_reducible rfl | assumption | rfl | decide | omega | exact cpow1 (by omega) (by omega) | exact cdiv (by omega) (by omega) | exact two_pos _ | exact SqL.of (by assumption) | exact SqT.of (by assumption) | exact TyX.base (TyOf.int _) | exact TyX.base (TyOf.bl _) | exact TyX.base TyOf.non | exact scal_opt _ _ | exact k_ii | exact k_bi | exact k_ni | exact k_ib | exact k_bb | exact TyX.base (TyOf.lst (by assumption)) | exact k_ll | exact k_lt)
local macro_rules | `(tactic| walk_at "p") => `(tactic| repeat (first | refine And.intro (by walk_at "side") ?_ | apply Exists.intro | refine iteN (by assumption) ?_ | refine iteP (by assumption) ?_ | refine iteN (by decide) ?_ | refine iteP (by decide) ?_))

theorem sIx_one (n : Nat) (h : 1 ≤ n) : HT.sIx n 0 (some 1) = 1 := by unfold HT.sIx; simp; omega
theorem cut1 (x : V) (r : List V) : cutV (x :: r) (some 1) none = r := by
  unfold cutV
  rw [sIx_one _ (by simp)]
  have : HT.sIx (x :: r).length (x :: r).length none = (x :: r).length := by unfold HT.sIx; simp
  rw [this]
  simp
theorem cut1_part (x : V) (r : List V) : ¬ (HT.sIx (x :: r).length 0 (some 1) = 0 ∧ HT.sIx (x :: r).length (x :: r).length none = (x :: r).length) := by
  rw [sIx_one _ (by simp)]
  omega
/-- the signs of a line's entries -/
def kdSg : Nat → List Nat
  | 0 => [114] | 1 => [118] | 2 => [] | 3 => [] | 4 => [105, 105] | 5 => [105, 105] | 6 => [105, 105] | 7 => [105, 105] | 8 => [105, 105] | 9 => [105, 105] | 10 => [105, 105]
  | 11 => [105] | 12 => [112] | 13 => [105, 99] | 14 => [105, 105] | 15 => [113, 105] | 16 => [114, 105] | _ => [105]
def kdSS (k : Nat) : Str := ⟨(kdSg k).toArray⟩
def entrT : List (Str × V) := [("get", .str "r"), ("num", .str "v"), ("here", .str ""), ("next", .str ""), ("add", .str "ii"), ("sub", .str "ii"), ("and", .str "ii"), ("or", .str "ii"), ("xor", .str "ii"), ("less", .str "ii"), ("same", .str "ii"), ("read", .str "i"), ("in", .str "p"), ("must", .str "ic"), ("write", .str "ii"), ("out", .str "qi"), ("put", .str "ri"), ("goto", .str "i")]
theorem entr_nm (l : Ln) : entrT.lookup l.nm = some (.str (kdSS l.kd)) :=
  of_decide_eq_true (nm_all (P := fun z k => decide (entrT.lookup z = some (.str (kdSS k)))) (by decide +kernel) l)
theorem es_kd (l : Ln) : l.es.length = (kdSg l.kd).length := by
  cases l with
  | op o i j => cases o <;> rfl
  | _ => rfl
theorem LnOk.ent {w r : Nat} {L N : List Nat} {l : Ln} (h : LnOk w r L N l) (h9 : ∀ c ∈ L, c ∈ [97, 98, 99, 109, 110]) : ∀ (i c : Nat) (x : V), (kdSg l.kd)[i]? = some c → l.es[i]? = some x → entS w r L N c x := by
  have reg : ∀ a : Rg, regR r L a → entS w r L N 114 a.v := fun a ha => by
    cases a with
    | l c => exact .inl ⟨c, rfl, ha.1, ha.2, by decide⟩
    | n i => exact .inr ⟨i, rfl, .inr (.inl ⟨rfl, ha⟩)⟩
  have num : ∀ a : Rg, numR w L a → entS w r L N 118 a.v := fun a ha => by
    cases a with
    | l c => exact .inl ⟨c, rfl, ha.1, ha.2, by decide⟩
    | n i => exact .inr ⟨i, rfl, .inr (.inr (.inl ⟨rfl, ha⟩))⟩
  have ix : ∀ i, i ∈ N → entS w r L N 105 (.int (i : Nat)) := fun i hi => .inr ⟨i, rfl, .inl ⟨rfl, hi⟩⟩
  intro i c x hc hx
  cases l with
  | get a =>
    match i, hc, hx with
    | 0, hc, hx => cases hc; cases hx; exact reg a h
  | num a =>
    match i, hc, hx with
    | 0, hc, hx => cases hc; cases hx; exact num a h
  | here => cases hc
  | next => cases hc
  | op o a b =>
    have hc' : ([105, 105] : List Nat)[i]? = some c := by cases o <;> exact hc
    match i, hc', hx with
    | 0, hc, hx => cases hc; cases hx; exact ix a h.1
    | 1, hc, hx => cases hc; cases hx; exact ix b h.2
  | read a =>
    match i, hc, hx with
    | 0, hc, hx => cases hc; cases hx; exact ix a h
  | inp p =>
    match i, hc, hx with
    | 0, hc, hx => cases hc; cases hx; exact .inr ⟨p, rfl, .inr (.inr (.inr (.inl ⟨rfl, h⟩)))⟩
  | must a b =>
    match i, hc, hx with
    | 0, hc, hx => cases hc; cases hx; exact ix a h.1
    | 1, hc, hx => cases hc; cases hx; exact .inr ⟨b, rfl, .inr (.inr (.inr (.inr (.inr ⟨rfl, h.2⟩))))⟩
  | write a b =>
    match i, hc, hx with
    | 0, hc, hx => cases hc; cases hx; exact ix a h.1
    | 1, hc, hx => cases hc; cases hx; exact ix b h.2
  | out p a =>
    match i, hc, hx with
    | 0, hc, hx => cases hc; cases hx; exact .inr ⟨p, rfl, .inr (.inr (.inr (.inr (.inl ⟨rfl, h.1⟩))))⟩
    | 1, hc, hx => cases hc; cases hx; exact ix a h.2
  | put a b =>
    match i, hc, hx with
    | 0, hc, hx => cases hc; cases hx; exact reg a h.1
    | 1, hc, hx => cases hc; cases hx; exact ix b h.2
  | goto a =>
    match i, hc, hx with
    | 0, hc, hx => cases hc; cases hx; exact ix a h
section
variable {P : Program} {w : World} {K : PySem.W.Frag} {mg : Str → Option Value} {base : Heap}
theorem Txt.entr (T : Txt w K mg) : KT K w T.a_ENTRIES entrT := T.kt_ENTRIES
def sp_Grammar_is_line (T : Txt w K mg) : Sp := fun vs H Q _ => ∃ (g u va : Addr) (n r : Nat) (L N : List Nat) (l : Ln), vs = [.ref g, .ref u, .ref va] ∧ GramAt T.C_Grammar H g n r L ∧ LnAt H u l ∧ H va = some (.lst (natsV N)) ∧ LnOk n r L N l ∧ (∀ c ∈ L, c ∈ [97, 98, 99, 109, 110]) ∧ ∀ H', Same H H' → Q (.bl true) H'
theorem sp_Grammar_is_line_len {T : Txt w K mg} {vs H Q E} (h : sp_Grammar_is_line T vs H Q E) : vs.length = 3 := by obtain ⟨_, _, _, _, _, _, _, _, rfl, _⟩ := h; rfl
theorem ok_Grammar_is_line (T : Txt w K mg) : FnOk P w K mg base CX0 3 T.f_Grammar_is_line T.fd_Grammar_is_line ["self", "line", "values"] (sp_Grammar_is_line T) := by
  have G_Grammar_is_entry := ok_Grammar_is_entry (P := P) (w := w) (base := base) T; have G_is_row := ok_is_row (P := P) (w := w) (base := base) T
  refine T.F_Grammar_is_line.ok sc_Grammar_is_line (fun vs H Q E h => sp_Grammar_is_line_len h) (fun cdv A outer s H vs Q E hr h => ?_)
  obtain ⟨g, u, va, n, r, L, N, l, rfl, hG, hu, hva, hok, hL, k⟩ := h
  have sz : sizeLine = 16777216 := sizeLine_eq
  refine ⟨_, (pss_cons (ps_if (PW.pt (pw_or (pt_not (pt_val (pe_call G_is_row (hr.mono (by decide)) rfl T.g_is_row T.F_is_row.kp T.b_is_row .nil pass0 (pa_cons (pv 1) pa_nil)))) (pw_or1 (pt_cmpR op_eq (pe_callB call_lenT (by rfl) T.n_len (by decide +kernel) (pa_cons (pv 1) pa_nil)) pe_int (nomark _)))))
        (pss_one (ps_ret pe_bl))
        pss_nil)
       (pss_cons (ps_if (PW.pt (pw_or (pt_not (pt_val (pe_callB call_isTy (by rfl) T.n_isinstance (by decide +kernel) (pa_cons (pe_ix ix_tup (pv 1) pe_int (fun _ _ => rfl)) (pa_cons (pe_bltn (v := .ty "str") (by rfl) T.n_str (by decide +kernel) rfl) pa_nil))))) (pw_or1 (pt_cmpR (op_notIn_kt T.kt_ENTRIES) (pe_ix ix_tup (pv 1) pe_int (fun _ _ => rfl)) (pe_glob (v := .ref T.a_ENTRIES) rfl T.c_ENTRIES rfl) (by rfl)))))
        (pss_one (ps_ret pe_bl))
        pss_nil)
       (pss_cons (ps_set (i := 3) sc_Grammar_is_line.nd rfl (Or.inl rfl) (pe_ix ix_kdict (pe_glob (v := .ref T.a_ENTRIES) rfl T.c_ENTRIES rfl) (pe_ix ix_tup (pv 1) pe_int (fun _ _ => rfl)) (fun _ _ => rfl)))
       (pss_cons (ps_if (pt_cmpR op_ne (pe_callB call_lenT (by rfl) T.n_len (by decide +kernel) (pa_cons (pv 1) pa_nil)) (pe_op op_add (pe_callB call_len_str (by rfl) T.n_len (by decide +kernel) (pa_cons (pv 3) pa_nil)) pe_int) (nomark _))
        (pss_one (ps_ret pe_bl))
        pss_nil)
       (pss_one (ps_ret (pe_callB (cr_all rfl) (by rfl) T.n_all (by decide +kernel) (pa_cons (pe_lc (own := [("sign", 4), ("entry", 5)]) rfl sc_Grammar_is_line.nd (pi_zipG (by rfl) T.n_zip (pa_cons (pv 3) (pa_cons (pe_slice sl_tup (pv 1) (po_some pe_int) po_none) pa_nil))) (blkOk_by (N := ["self", "line", "values", "signs", "sign", "entry"]) (sc := defScope s_Grammar_is_line) (by decide +kernel)) (fun _ _ _ _ _ => by (apply pg_tr; exact (pg_tup (n := 2) rfl (pgs_cons (pg_name (i := 4) sc_Grammar_is_line.nd rfl (Or.inl rfl)) (pgs_cons (pg_name (i := 5) sc_Grammar_is_line.nd rfl (Or.inl rfl)) pgs_nil))); (try dsimp only [Cx.blk]) <;> exact rfl)) (fun _ _ _ _ _ => by (apply pts_tr; exact pts_nil; (try dsimp only [Cx.blk]) <;> exact rfl)) (fun _ _ _ _ _ => by (apply pe_tr; exact (pe_meth (pv 0) T.cl_Grammar T.m_Grammar_is_entry G_Grammar_is_entry hr T.b_Grammar_is_entry .nil pass0 (pa_cons (pv 4) (pa_cons (pv 5) (pa_cons (pv 2) pa_nil)))); (try dsimp only [Cx.blk]) <;> exact rfl))) pa_nil)))))))), ?_⟩
  refine ⟨_, rfl, .inl ⟨u, _, rfl, .inr hu, fun H1 s1 => ⟨_, rfl, iteN (fun z => by cases z) ?_⟩⟩⟩
  have hu1 := s1 _ _ hu
  refine ⟨_, rfl, u, _, rfl, SqT.of hu1, rfl, _, rfl, iteN (by show ¬ decide (V.int ((l.es.length + 1 : Nat) : Int) = V.int 0) = true; exact dF (by intro z; injection z with z; omega)) ?_⟩
  refine ⟨_, rfl, u, _, _, _, rfl, rfl, SqT.of hu1, ln_at0 l, _, _, _, rfl, ty4 (x := .str l.nm) rfl, _, k_4s (x := .str l.nm) rfl, _, rfl, iteN (by show ¬ (!true) = true; decide) ?_⟩
  refine ⟨_, rfl, u, _, _, _, rfl, rfl, SqT.of hu1, ln_at0 l, l.nm, rfl, rfl, _, rfl, iteN ?_ ?_⟩
  · show ¬ (!(entrT.lookup l.nm).isSome) = true
    rw [entr_nm]; show ¬ (!true) = true; decide
  refine ⟨_, rfl, u, _, _, _, rfl, rfl, SqT.of hu1, ln_at0 l, _, l.nm, _, rfl, rfl, T.entr.dct (entr_nm l), ?_⟩
  have hsl : (kdSS l.kd).length = (kdSg l.kd).length := by unfold kdSS; show (kdSg l.kd).toArray.size = _; simp
  have e2 := l.es_len
  have ek := es_kd l
  refine ⟨_, rfl, u, _, rfl, SqT.of hu1, _, rfl, kdSS l.kd, rfl, by omega, _, _, rfl, rfl, rfl, _, rfl, iteN ?_ ?_⟩
  · show ¬ (!decide (V.int ((l.es.length + 1 : Nat) : Int) = V.int (((kdSS l.kd).length : Int) + 1))) = true
    rw [hsl, ← ek]; simp
  refine ⟨_, rfl, _, rfl, _, rfl, u, _, rfl, SqT.of hu1, cut1_part _ _, fun p p0 => ?_⟩
  rw [show cutV l.vals (some 1) none = l.es from cut1 _ _]
  have s2 := s1.trans (same_new (o := .tup l.es) p0)
  refine ⟨_, _, _, _, rfl, .inr ⟨kdSS l.kd, rfl, rfl⟩, .inl ⟨p, rfl, .inr upd_same⟩, fun J G wk hG' D hD => ?_⟩
  have s3 := s2.trans (same_new (o := .lst []) hD)
  refine lc_it wk (fun i H3 => Same H H3 ∧ H3 p = some (.tup l.es) ∧ H3 D = some (.lst ((List.replicate i true).map V.bl))) ⟨s3, same_new hD _ _ upd_same, upd_same⟩ ?_ ?_ ?_
  · rintro i H3 hi ⟨s3, hp3, _⟩
    refine hG' _ (fun a e => by cases e) fun a e => ?_
    cases e; rw [hp3, upd_same]
  · rintro i x H3 H4 hi ⟨s3, hp3, h3⟩ ⟨T', x', y', rfl, hT0, rfl, hx', hy'⟩
    dsimp only at hx' hy'
    have s4 := same_new (o := .tup [x', y']) hT0
    have hx'' : ∃ c, (kdSg l.kd)[i]? = some c ∧ x' = V.str (sg c) := by
      rw [sigs_at] at hx'
      unfold kdSS at hx'
      rw [List.getElem?_toArray] at hx'
      cases h : (kdSg l.kd)[i]? with
      | none => rw [h] at hx'; cases hx'
      | some c => rw [h] at hx'; exact ⟨c, rfl, (Option.some.inj hx').symm⟩
    obtain ⟨c, hc, rfl⟩ := hx''
    refine ⟨T', _, rfl, SqT.of upd_same, rfl, _, _, rfl, _, _, rfl, rfl, rfl, _, rfl, ?_⟩
    have s34 := s3.trans s4
    have hi2 : i < 2 := by have := (List.getElem?_eq_some_iff.mp hy').1; omega
    have hG5 := hG.news s34
    obtain ⟨dx, dl, dn, kl, q1, q2, q3, q4, q5, h1, _⟩ := id hG5
    have nom : [(("letters" : Str), V.ref dl), ("numbers", .ref dn)].lookup ("is_entry" : Str) = none := by rw [lk, if_neg (by decide +kernel), lk, if_neg (by decide +kernel)]; rfl
    refine ⟨g, dx, _, rfl, h1, nom, _, rfl, _, rfl, _, rfl, g, va, n, r, c, L, N, y', rfl, hG5, s34 _ _ hva, hok.ent hL i c y' hc hy', ?_⟩
    refine ⟨_, s4 _ _ h3, by rw [List.length_map, List.length_replicate]; omega, fun b o e => ?_, ?_, ?_⟩
    · have bD : b ≠ D := fun z => by rw [z] at e; have := s2 _ _ e; rw [hD] at this; cases this
      rw [upd_ne bD]; exact s34 _ _ e
    · have pD : p ≠ D := fun z => by rw [← z, upd_same] at hD; cases hD
      rw [upd_ne pD]; exact s4 _ _ hp3
    · rw [upd_same, rep_snoc]
  · rintro H3 ⟨s3, hp3, h3⟩
    refine ⟨D, _, rfl, SqL.of h3, ?_⟩
    rw [all_rep]
    exact k _ s3
end
end My

/-! E4 -/
namespace My
open PySem L2
local macro_rules | `(tactic| walk_at "side") => `(tactic| first | with_reducible rfl | assumption | rfl | decide | omega | exact cpow1 (by omega) (by omega) | exact cdiv (by omega) (by omega) | exact two_pos _ | exact SqL.of (by assumption) | exact SqT.of (by assumption) | exact TyX.base (TyOf.int _) | exact TyX.base (TyOf.bl _) | exact TyX.base TyOf.non | exact scal_opt _ _ | exact k_ii | exact k_bi | exact k_ni | exact k_ib | exact k_bb | exact TyX.base (TyOf.lst (by assumption)) | exact k_ll | exact k_lt)
local macro_rules | `(tactic| walk_at "p") => `(tactic| repeat (first | refine And.intro (by walk_at "side") ?_ | apply Exists.intro | refine iteN (by assumption) ?_ | refine iteP (by assumption) ?_ | refine iteN (by decide) ?_ | refine iteP (by decide) ?_))

theorem valsTo_snoc (ls : List Ln) (l : Ln) : valsTo (ls ++ [l]) = if l.isV = true then valsTo ls ++ [ls.length] else valsTo ls := by
  unfold valsTo
  rw [List.zipIdx_append, List.filter_append, List.map_append]
  cases h : l.isV
  · simp [h]
  · simp [h]
theorem valsTo_lt (ls : List Ln) : ∀ i ∈ valsTo ls, i < ls.length := by
  intro i hi
  unfold valsTo at hi
  obtain ⟨q, hq, rfl⟩ := List.mem_map.mp hi
  have := List.mem_zipIdx (List.mem_filter.mp hq).1
  omega
theorem valsTo_len (ls : List Ln) : (valsTo ls).length ≤ ls.length := by
  unfold valsTo
  rw [List.length_map]
  refine Nat.le_trans (List.length_filter_le _ _) ?_
  rw [List.length_zipIdx]; exact Nat.le_refl _
section
variable {P : Program} {w : World} {K : PySem.W.Frag} {mg : Str → Option Value} {base : Heap}
def sp_first_wrong (T : Txt w K mg) : Sp := fun vs H Q _ => ∃ (g b : Addr) (n r : Nat) (L : List Nat) (ls : List Ln) (us : List V), vs = [.ref g, .ref b] ∧ GramAt T.C_Grammar H g n r L ∧ Row H b us ∧ Refs H us ls LnAt ∧ LnsOk n r L ls ∧ (∀ c ∈ L, c ∈ [97, 98, 99, 109, 110]) ∧ ∀ H', Same H H' → Q .non H'
theorem sp_first_wrong_len {T : Txt w K mg} {vs H Q E} (h : sp_first_wrong T vs H Q E) : vs.length = 2 := by obtain ⟨_, _, _, _, _, _, _, rfl, _⟩ := h; rfl
theorem ok_first_wrong (T : Txt w K mg) : FnOk P w K mg base CX0 4 T.f_first_wrong T.fd_first_wrong ["grammar", "lines"] (sp_first_wrong T) := by
  have G_Grammar_is_line := ok_Grammar_is_line (P := P) (w := w) (base := base) T
  refine T.F_first_wrong.ok sc_first_wrong (fun vs H Q E h => sp_first_wrong_len h) (fun cdv A outer s H vs Q E hr h => ?_)
  obtain ⟨g, b, n, r, L, ls, us, rfl, hG, hb, hR, hok, hL, k⟩ := h
  have sz : sizeLine = 16777216 := sizeLine_eq
  have hul := hR.1
  have l12 := hok.len
  refine ⟨_, (pss_cons (ps_set (i := 2) sc_first_wrong.nd rfl (Or.inl rfl) (pe_lst pa_nil))
       (pss_cons (ps_set (i := 3) sc_first_wrong.nd rfl (Or.inl rfl) pe_int)
       (pss_cons (ps_set (i := 4) sc_first_wrong.nd rfl (Or.inl rfl) pe_int)
       (pss_cons (ps_for PassesOwn.never rfl (pi_enS (by rfl) T.n_enumerate (pa_cons (pv 1) pa_nil)) (pg_tup (n := 2) rfl (pgs_cons (pg_name (i := 5) sc_first_wrong.nd rfl (Or.inl rfl)) (pgs_cons (pg_name (i := 6) sc_first_wrong.nd rfl (Or.inl rfl)) pgs_nil)))
        (pss_cons (ps_if (pt_not (pt_val (pe_meth (pv 0) T.cl_Grammar T.m_Grammar_is_line G_Grammar_is_line hr T.b_Grammar_is_line .nil pass0 (pa_cons (pv 6) (pa_cons (pv 2) pa_nil)))))
        (pss_one (ps_ret (pv 5)))
        pss_nil)
       (Evl.pss_cut (ps_if (pt_cmpR op_in_seq (pe_ix ix_tup (pv 6) pe_int (fun _ _ => rfl)) (pe_glob (v := .ref T.a_EFFECTS) rfl T.c_EFFECTS rfl) (by rfl))
        (pss_one (ps_aug (i := 3) sc_first_wrong.nd rfl (Or.inl rfl) pe_int ip_add))
        pss_nil)
       (Evl.pss_cut (ps_if (pt_cmpR op_eq (pe_ix ix_tup (pv 6) pe_int (fun _ _ => rfl)) pe_str (nomark _))
        (pss_one (ps_aug (i := 4) sc_first_wrong.nd rfl (Or.inl rfl) pe_int ip_add))
        pss_nil)
       (pss_cons (ps_if (PW.pt (pw_or (pt_cmpR op_gt (pv 3) pe_int (nomark _)) (pw_or1 (pt_cmpR op_gt (pv 4) pe_int (nomark _)))))
        (pss_one (ps_ret (pv 5)))
        pss_nil)
       (pss_one (ps_if (pt_cmpR op_in_seq (pe_ix ix_tup (pv 6) pe_int (fun _ _ => rfl)) (pe_glob (v := .ref T.a_VALUES) rfl T.c_VALUES rfl) (by rfl))
        (pss_one (ps_expr (pe_bm PySem.F.plainAttrs_list PySem.F.slot_list_append PySem.F.type_list_append mt_append (pv 2) (pa_cons (pv 5) pa_nil))))
        pss_nil)))))))
       (pss_one (ps_ret pe_non)))))), ?_⟩
  refine ⟨Nat.zero_le _, fun vl vl0 => ?_⟩
  have s1 := same_new (o := .lst []) vl0
  refine ⟨_, rfl, b, _, rfl, hb.news s1, fun J G wk hG' => ?_⟩
  refine for_it wk (fun i σ H3 => Same H H3 ∧ H3 vl = some (.lst (natsV (valsTo (ls.take i)))) ∧ ∃ v5 v6 : Option V, σ = [some (.ref g), some (.ref b), some (.ref vl), some (.int (((ls.take i).filter Ln.isE).length : Nat)), some (.int (((ls.take i).filter Ln.isG).length : Nat)), v5, v6]) ⟨s1, upd_same, none, none, rfl⟩ ?_ ?_ ?_
  · rintro i σ H3 hi ⟨s3, _⟩
    exact hG' _ (by rw [hb.eq s3, (hb.eq s1)])
  · rintro i x σ H3 H4 hi ⟨s3, hvl, v5, v6, rfl⟩ ⟨T', x', y', rfl, hT0, rfl, hx', hy⟩
    cases hx'
    obtain ⟨u, l, hl, hu, hr⟩ := hR.at (i := i) (by omega)
    have hy := hy.symm.trans hu
    cases hy
    have s4 := same_new (o := .tup [.int (i : Nat), .ref u]) hT0
    have s34 := s3.trans s4
    have hil := (List.getElem?_eq_some_iff.mp hl).1
    refine ⟨T', _, rfl, SqT.of upd_same, rfl, _, _, rfl, _, _, rfl, rfl, ?_⟩
    have hG4 := hG.news s34
    obtain ⟨dx, dl, dn, kl, q1, q2, q3, q4, q5, h1, _⟩ := id hG4
    have nom : [(("letters" : Str), V.ref dl), ("numbers", .ref dn)].lookup ("is_line" : Str) = none := by rw [lk, if_neg (by decide +kernel), lk, if_neg (by decide +kernel)]; rfl
    refine ⟨_, rfl, g, dx, _, rfl, h1, nom, _, rfl, _, rfl, g, u, vl, n, r, L, _, l, rfl, hG4, s34 _ _ hr, s4 _ _ hvl, hok.ok i l hl, hL, fun H5 s5 => ⟨_, rfl, iteN (fun z => by cases z) ?_⟩⟩
    have s35 := s34.trans s5
    have hu5 := s35 _ _ hr
    have hvl5 := s5 _ _ (s4 _ _ hvl)
    have etk : ls.take (i + 1) = ls.take i ++ [l] := by rw [List.take_succ, hl]; rfl
    have eE : ((ls.take (i + 1)).filter Ln.isE).length = ((ls.take i).filter Ln.isE).length + if l.isE = true then 1 else 0 := by
      rw [etk, List.filter_append, List.length_append]
      cases h : l.isE <;> simp [h]
    have eG : ((ls.take (i + 1)).filter Ln.isG).length = ((ls.take i).filter Ln.isG).length + if l.isG = true then 1 else 0 := by
      rw [etk, List.filter_append, List.length_append]
      cases h : l.isG <;> simp [h]
    have subE : ((ls.take (i + 1)).filter Ln.isE).length ≤ 1 := Nat.le_trans ((List.take_sublist _ _).filter _).length_le hok.eff
    have subG : ((ls.take (i + 1)).filter Ln.isG).length ≤ 1 := Nat.le_trans ((List.take_sublist _ _).filter _).length_le hok.gto
    refine ⟨fun σ' H' => H' = H5 ∧ σ' = [some (.ref g), some (.ref b), some (.ref vl), some (.int (((ls.take (i + 1)).filter Ln.isE).length : Nat)), some (.int (((ls.take i).filter Ln.isG).length : Nat)), some (.int (i : Nat)), some (.ref u)], ?_, ?_⟩
    · refine ⟨_, rfl, u, _, _, _, rfl, rfl, SqT.of hu5, ln_at0 l, T.a_EFFECTS, (["write", "in", "out"] : List Str).map V.str, rfl, .inr (T.v_EFFECTS _), rfl, flatStrs _, _, rfl, ?_⟩
      rw [inStrs, nm_eff]
      refine iteB (fun (c : l.isE = true) => ?_) fun (c : l.isE = false) => ?_
      · refine ⟨_, rfl, _, _, rfl, rfl, rfl, ?_⟩
        rw [eE, if_pos c]; rfl
      · refine ⟨rfl, ?_⟩
        rw [eE, if_neg (by rw [c]; decide)]; rfl
    rintro σ' H' ⟨rfl, rfl⟩
    refine ⟨fun σ' H'' => H'' = H' ∧ σ' = [some (.ref g), some (.ref b), some (.ref vl), some (.int (((ls.take (i + 1)).filter Ln.isE).length : Nat)), some (.int (((ls.take (i + 1)).filter Ln.isG).length : Nat)), some (.int (i : Nat)), some (.ref u)], ?_, ?_⟩
    · refine ⟨_, rfl, u, _, _, _, rfl, rfl, SqT.of hu5, ln_at0 l, rfl, _, rfl, ?_⟩
      have eg : decide (V.str l.nm = V.str "goto") = l.isG := by
        rw [← nm_gto]
        simp
      rw [eg]
      refine iteB (fun (c : l.isG = true) => ?_) fun (c : l.isG = false) => ?_
      · refine ⟨_, rfl, _, _, rfl, rfl, rfl, ?_⟩
        rw [eG, if_pos c]; rfl
      · refine ⟨rfl, ?_⟩
        rw [eG, if_neg (by rw [c]; decide)]; rfl
    rintro σ' H'' ⟨rfl, rfl⟩
    have d1 : ¬ decide ((1 : Int) < (((ls.take (i + 1)).filter Ln.isE).length : Nat)) = true := dF (by omega)
    have d2 : ¬ decide ((1 : Int) < (((ls.take (i + 1)).filter Ln.isG).length : Nat)) = true := dF (by omega)
    refine ⟨_, rfl, _, _, rfl, rfl, _, rfl, iteN d1 ⟨_, rfl, _, _, rfl, rfl, _, rfl, iteN d2 ?_⟩⟩
    refine ⟨_, rfl, u, _, _, _, rfl, rfl, SqT.of hu5, ln_at0 l, T.a_VALUES, (["get", "num", "here", "next", "add", "sub", "and", "or", "xor", "less", "same", "read", "in"] : List Str).map V.str, rfl, .inr (T.v_VALUES _), rfl, flatStrs _, _, rfl, ?_⟩
    rw [inStrs, nm_val]
    have hlen : (ls.take i).length = i := by rw [List.length_take]; omega
    have hv := valsTo_snoc (ls.take i) l
    rw [← etk, hlen] at hv
    have vl3 := valsTo_len (ls.take i)
    refine iteB (fun (c : l.isV = true) => ?_) fun (c : l.isV = false) => ?_
    · refine ⟨_, rfl, .inl ⟨rfl, _, SqL.of hvl5⟩, _, rfl, vl, _, _, rfl, rfl, hvl5, by rw [natsV_len]; omega, ?_⟩
      refine ⟨fun a o e => ?_, ?_, _, _, rfl⟩
      · have : a ≠ vl := fun z => by rw [z, vl0] at e; cases e
        rw [upd_ne this]; exact s35 _ _ e
      · rw [upd_same, hv, if_pos c, natsV_snoc]
    · refine ⟨s35, ?_, _, _, rfl⟩
      rw [hv, if_neg (by rw [c]; decide)]; exact hvl5
  · rintro σ H3 ⟨s3, _, v5, v6, rfl⟩
    exact k _ s3
end
end My

/-! F -/
namespace My
open PySem L2
local macro_rules | `(tactic| walk_at "side") => `(tactic| first | with_reducible rfl | assumption | rfl | decide | omega | exact cpow1 (by omega) (by omega) | exact cdiv (by omega) (by omega) | exact two_pos _ | exact SqL.of (by assumption) | exact SqT.of (by assumption) | exact TyX.base (TyOf.int _) | exact TyX.base (TyOf.bl _) | exact TyX.base TyOf.non | exact scal_opt _ _ | exact k_ii | exact k_bi | exact k_ni | exact k_ib | exact k_bb | exact TyX.base (TyOf.lst (by assumption)) | exact k_ll | exact k_lt)
local macro_rules | `(tactic| walk_at "p") => `(tactic| repeat (first | refine And.intro (by walk_at "side") ?_ | apply Exists.intro | refine iteN (by assumption) ?_ | refine iteP (by assumption) ?_ | refine iteN (by decide) ?_ | refine iteP (by decide) ?_))

/-- a row that tells a form without lines -/
def RowP (H : Hp) (t : Addr) (f : FM) : Prop := ∃ pa la us, H t = some (.tup [.str f.nm, .ref pa, .ref la]) ∧ H pa = some (.lst (f.ps.map V.str)) ∧ H la = some (.lst us) ∧ Refs H us f.ls LnAt
theorem RowP.news {H H' : Hp} {t : Addr} {f : FM} (h : RowP H t f) (s : Same H H') : RowP H' t f := by
  obtain ⟨pa, la, us, h1, h2, h3, h4⟩ := h
  exact ⟨pa, la, us, s _ _ h1, s _ _ h2, s _ _ h3, h4.map fun u x _ r => s _ _ r⟩
/-- all that was there and is no list is still there -/
def NL (H H' : Hp) : Prop := ∀ b o, H b = some o → (∀ xs, o ≠ HO.lst xs) → H' b = some o
theorem NL.of {H H' : Hp} (s : Same H H') : NL H H' := fun b o e _ => s b o e
theorem LettersAt.nl {H H' : Hp} {t : Addr} {L : List (Nat × Nat)} (h : LettersAt H t L) (s : NL H H') : LettersAt H' t L := by
  obtain ⟨ts, h1, h2⟩ := h
  exact ⟨ts, s _ _ h1 (fun xs z => by cases z), h2.map fun u q _ r => s _ _ r fun xs z => by cases z⟩
theorem FixAt.nl {H H' : Hp} {t : Addr} {ps : List Str} (h : FixAt H t ps) (s : NL H H') : FixAt H' t ps := by
  obtain ⟨ts, h1, h2⟩ := h
  exact ⟨ts, s _ _ h1 (fun xs z => by cases z), h2.map fun u q _ r => s _ _ r fun xs z => by cases z⟩
theorem LinesAt.nl {H H' : Hp} {t : Addr} {ls : List Ln} (h : LinesAt H t ls) (s : NL H H') : LinesAt H' t ls := by
  obtain ⟨ts, h1, h2⟩ := h
  exact ⟨ts, s _ _ h1 (fun xs z => by cases z), h2.map fun u q _ r => s _ _ r fun xs z => by cases z⟩
theorem FormAt.nl {C : Addr} {H H' : Hp} {a : Addr} {f : FM} (h : FormAt C H a f) (s : NL H H') : FormAt C H' a f := by
  obtain ⟨dx, pt, ln, lt, fx, h⟩ := h
  exact ⟨dx, pt, ln, lt, fx, s _ _ h.o (fun xs z => by cases z), s _ _ h.pt (fun xs z => by cases z), h.ln.nl s, h.lt.nl s, h.fx.nl s⟩
theorem NL.list {H : Hp} {l : Addr} {xs : List V} {o : HO} (h : H l = some (.lst xs)) : NL H (upd H l o) := fun b p e n => by
  by_cases hb : b = l
  · subst hb; rw [h] at e; exact absurd (Option.some.inj e).symm (n xs)
  · rw [upd_ne hb]; exact e
def FormsAt (C : Addr) (H : Hp) (t : Addr) (F : List FM) : Prop := ∃ us, H t = some (.tup us) ∧ Refs H us F (FormAt C)
structure BookOk (n r : Nat) (F : List FM) : Prop where
  n4 : 4 ≤ n
  n8 : n ≤ 8
  r1 : 1 ≤ r
  r4 : r ≤ 4
  f1 : 1 ≤ F.length
  f32 : F.length ≤ 32
  nd : (F.map FM.nm).Nodup
  nm : ∀ f ∈ F, nameOk f.nm
  ps : ∀ f ∈ F, PatsOk n r f.ps
  ls : ∀ f ∈ F, LnsOk n r ((lettersM (pls f.ps)).map Prod.fst) f.ls
theorem inNm (z : Str) : ∀ G : List FM, inV (V.str z) (G.map fun g => V.str g.nm) = decide (z ∈ G.map FM.nm)
  | [] => rfl
  | g :: r => by
    have ih := inNm z r
    unfold inV at ih ⊢
    rw [List.map_cons, List.any_cons, ih, List.map_cons]
    show (decide _ || _) = _
    by_cases h : g.nm = z
    · subst h; simp [eqV]
    · have h' : z ≠ g.nm := fun e => h e.symm
      simp [eqV, h, h']
theorem nodup_take {F : List FM} (h : (F.map FM.nm).Nodup) {i : Nat} {f : FM} (hf : F[i]? = some f) : ¬ f.nm ∈ (F.take i).map FM.nm := by
  intro hm
  have hi := (List.getElem?_eq_some_iff.mp hf).1
  have e : F = F.take i ++ F.drop i := (List.take_append_drop i F).symm
  rw [e, List.map_append, List.nodup_append] at h
  refine h.2.2 _ hm _ ?_ rfl
  refine List.mem_map_of_mem ?_
  rw [List.drop_eq_getElem_cons hi]
  have : F[i] = f := (List.getElem?_eq_some_iff.mp hf).2
  rw [this]; simp
theorem lettersM_le (ps : List (List Nat)) : (lettersM ps).length ≤ 5 := by
  unfold lettersM
  rw [List.length_map]
  exact List.length_filter_le _ _
section
variable {P : Program} {w : World} {K : PySem.W.Frag} {mg : Str → Option Value} {base : Heap}
def sp_checked_forms (T : Txt w K mg) : Sp := fun vs H Q _ => ∃ (a : Addr) (ts : List V) (F : List FM) (n r : Nat), vs = [.int (n : Nat), .int (r : Nat), .ref a] ∧ H a = some (.lst ts) ∧ Refs H ts F RowP ∧ BookOk n r F ∧
  ∀ (H' : Hp) (t : Addr), Same H H' → FormsAt T.C_Form H' t F → Q (.ref t) H'
theorem sp_checked_forms_len {T : Txt w K mg} {vs H Q E} (h : sp_checked_forms T vs H Q E) : vs.length = 3 := by obtain ⟨_, _, _, _, _, rfl, _⟩ := h; rfl
theorem ok_checked_forms (T : Txt w K mg) : FnOk P w K mg base CX0 5 T.f_checked_forms T.fd_checked_forms ["word", "registers", "forms"] (sp_checked_forms T) := by
  have G_Form_init := ok_Form_init (P := P) (w := w) (base := base) T; have G_Grammar_init := ok_Grammar_init (P := P) (w := w) (base := base) T; have G_are_patterns := ok_are_patterns (P := P) (w := w) (base := base) T; have G_first_wrong := ok_first_wrong (P := P) (w := w) (base := base) T; have G_is_name := ok_is_name (P := P) (w := w) (base := base) T; have G_is_row := ok_is_row (P := P) (w := w) (base := base) T; have G_letters_of := ok_letters_of (P := P) (w := w) (base := base) T
  refine T.F_checked_forms.ok sc_checked_forms (fun vs H Q E h => sp_checked_forms_len h) (fun cdv A outer s H vs Q E hr h => ?_)
  obtain ⟨a, ts, F, n, r, rfl, ha, hR, hB, k⟩ := h
  refine ⟨_, (Evl.pss_cut (ps_if (PW.pt (pw_or (pt_not (pt_val (pe_call G_is_row (hr.mono (by decide)) rfl T.g_is_row T.F_is_row.kp T.b_is_row .nil pass0 (pa_cons (pv 2) pa_nil)))) (pw_or1 (pt_not (pt_chain op_le op_le pe_int (pe_callB call_lenL (by rfl) T.n_len (by decide +kernel) (pa_cons (pv 2) pa_nil)) (pe_glob (v := .int 32) rfl T.c_MOST_FORMS ⟨_, rfl⟩))))))
        (pss_one ps_never)
        pss_nil)
       (pss_cons (ps_set (i := 3) sc_checked_forms.nd rfl (Or.inl rfl) (pe_lst pa_nil))
       (pss_cons (ps_for PassesOwn.never rfl (pi_list (pv 2)) (pg_name (i := 4) sc_checked_forms.nd rfl (Or.inl rfl))
        (pss_cons (ps_if (PW.pt (pw_or (pt_not (pt_val (pe_call G_is_row (hr.mono (by decide)) rfl T.g_is_row T.F_is_row.kp T.b_is_row .nil pass0 (pa_cons (pv 4) pa_nil)))) (pw_or1 (pt_cmpR op_ne (pe_callB call_lenT (by rfl) T.n_len (by decide +kernel) (pa_cons (pv 4) pa_nil)) pe_int (nomark _)))))
        (pss_one ps_never)
        pss_nil)
       (pss_cons (ps_asg (pv 4) (pg_tup (n := 3) rfl (pgs_cons (pg_name (i := 5) sc_checked_forms.nd rfl (Or.inl rfl)) (pgs_cons (pg_name (i := 6) sc_checked_forms.nd rfl (Or.inl rfl)) (pgs_cons (pg_name (i := 7) sc_checked_forms.nd rfl (Or.inl rfl)) pgs_nil)))))
       (pss_cons (ps_if (PW.pt (pw_or (pt_not (pt_val (pe_call G_is_name (hr.mono (by decide)) rfl T.g_is_name T.F_is_name.kp T.b_is_name .nil pass0 (pa_cons (pv 5) pa_nil)))) (pw_or1 (pt_cmpR op_in_seq (pv 5) (pe_lc (own := [("form", 9)]) rfl sc_checked_forms.nd (pi_list (pv 3)) (blkOk_by (N := ["word", "registers", "forms", "made", "entry", "name", "patterns", "lines", "wrong", "form", "line"]) (sc := defScope s_checked_forms) (by decide +kernel)) (fun _ _ _ _ _ => by (apply pg_tr; exact pg_name (i := 9) sc_checked_forms.nd rfl (Or.inl rfl); (try dsimp only [Cx.blk]) <;> exact rfl)) (fun _ _ _ _ _ => by (apply pts_tr; exact pts_nil; (try dsimp only [Cx.blk]) <;> exact rfl)) (fun _ _ _ _ _ => by (apply pe_tr; exact (pe_fldA (pv 9)); (try dsimp only [Cx.blk]) <;> exact rfl))) (by rfl)))))
        (pss_one ps_never)
        pss_nil)
       (pss_cons (ps_if (pt_not (pt_val (pe_call G_are_patterns (hr.mono (by decide)) rfl T.g_are_patterns T.F_are_patterns.kp T.b_are_patterns .nil pass0 (pa_cons (pv 0) (pa_cons (pv 1) (pa_cons (pv 6) pa_nil))))))
        (pss_one ps_never)
        pss_nil)
       (pss_cons (ps_if (PW.pt (pw_or (pt_not (pt_val (pe_call G_is_row (hr.mono (by decide)) rfl T.g_is_row T.F_is_row.kp T.b_is_row .nil pass0 (pa_cons (pv 7) pa_nil)))) (pw_or1 (pt_cmpR op_gt (pe_callB call_lenL (by rfl) T.n_len (by decide +kernel) (pa_cons (pv 7) pa_nil)) (pe_glob (v := .int 12) rfl T.c_MOST_LINES ⟨_, rfl⟩) (nomark _)))))
        (pss_one ps_never)
        pss_nil)
       (pss_cons (ps_set (i := 8) sc_checked_forms.nd rfl (Or.inl rfl) (pe_call G_first_wrong hr rfl T.g_first_wrong T.F_first_wrong.kp T.b_first_wrong .nil pass0 (pa_cons (pe_make T.M_Grammar G_Grammar_init (hr.mono (by decide)) rfl T.g_Grammar T.b_Grammar_init .nil pass0 (pa_cons (pv 0) (pa_cons (pv 1) (pa_cons (pe_call G_letters_of (hr.mono (by decide)) rfl T.g_letters_of T.F_letters_of.kp T.b_letters_of .nil pass0 (pa_cons (pv 6) pa_nil)) pa_nil)))) (pa_cons (pv 7) pa_nil))))
       (pss_cons (ps_if (pt_cmpR op_notN (pv 8) pe_non (nomark _))
        (pss_one ps_never)
        pss_nil)
       (pss_one (ps_expr (pe_bm PySem.F.plainAttrs_list PySem.F.slot_list_append PySem.F.type_list_append mt_append (pv 3) (pa_cons (pe_make T.M_Form G_Form_init (hr.mono (by decide)) rfl T.g_Form T.b_Form_init .nil pass0 (pa_cons (pv 5) (pa_cons (pe_callTy call_tupleL (by rfl) T.n_tuple (by decide +kernel) (pa_cons (pv 6) pa_nil)) (pa_cons (pe_callTy call_tupleL (by rfl) T.n_tuple (by decide +kernel) (pa_cons (pe_lc (own := [("line", 10)]) rfl sc_checked_forms.nd (pi_list (pv 7)) (blkOk_by (N := ["word", "registers", "forms", "made", "entry", "name", "patterns", "lines", "wrong", "form", "line"]) (sc := defScope s_checked_forms) (by decide +kernel)) (fun _ _ _ _ _ => by (apply pg_tr; exact pg_name (i := 10) sc_checked_forms.nd rfl (Or.inl rfl); (try dsimp only [Cx.blk]) <;> exact rfl)) (fun _ _ _ _ _ => by (apply pts_tr; exact pts_nil; (try dsimp only [Cx.blk]) <;> exact rfl)) (fun _ _ _ _ _ => by (apply pe_tr; exact (pe_callTy call_tupleTT (by rfl) T.n_tuple (by decide +kernel) (pa_cons (pv 10) pa_nil)); (try dsimp only [Cx.blk]) <;> exact rfl))) pa_nil)) pa_nil)))) pa_nil))))))))))))
       (pss_one (ps_ret (pe_callTy call_tupleL (by rfl) T.n_tuple (by decide +kernel) (pa_cons (pv 3) pa_nil))))))), ?_⟩
  have sz : sizeLine = 16777216 := sizeLine_eq
  have hl := hR.1
  have b1 := hB.f1
  have b32 := hB.f32
  have d1 : decide ((1 : Int) ≤ (ts.length : Nat)) = true := dT (by omega)
  have d2 : decide (((ts.length : Nat) : Int) ≤ 32) = true := dT (by omega)
  have d3 := nF d2
  refine ⟨fun σ' H' => Same H H' ∧ σ' = start ["word", "registers", "forms", "made", "entry", "name", "patterns", "lines", "wrong", "form", "line"] [.int (n : Nat), .int (r : Nat), .ref a], ?_, ?_⟩
  · refine ⟨_, rfl, .inl ⟨a, _, rfl, .inl ha, fun H1 s1 => ?_⟩⟩
    refine ⟨_, rfl, iteN (fun q => by cases q) ?_⟩
    refine ⟨_, rfl, a, _, rfl, SqL.of (s1 _ _ ha), _, _, rfl, rfl, _, rfl, iteP d1 ⟨_, _, rfl, rfl, _, rfl, iteN d3 ?_⟩⟩
    exact ⟨s1, rfl⟩
  rintro σ' H1 ⟨s1, rfl⟩
  refine ⟨Nat.zero_le _, fun l hl0 => ?_⟩
  have l0 : H l = none := by
    cases e : H l with
    | none => rfl
    | some o => rw [s1 _ _ e] at hl0; cases hl0
  refine ⟨_, rfl, a, rfl, ⟨_, SqL.of (same_new hl0 _ _ (s1 _ _ ha))⟩, ?_⟩
  refine for_it (walk_list (xs := ts)) (fun i σ H2 => Same H H2 ∧ ∃ us, H2 l = some (.lst us) ∧ Refs H2 us (F.take i) (FormAt T.C_Form) ∧ ∃ v4 v5 v6 v7 v8 v9 v10 : Option V, σ = [some (.int (n : Nat)), some (.int (r : Nat)), some (.ref a), some (.ref l), v4, v5, v6, v7, v8, v9, v10])
    ⟨s1.trans (same_new hl0), [], upd_same, Refs.nil, none, none, none, none, none, none, none, rfl⟩ (fun i σ H2 _ ⟨s2, _⟩ => SqL.of (s2 _ _ ha)) ?_ ?_
  · rintro i x σ H2 H3 hi ⟨s2, us, hus, hRu, v4, v5, v6, v7, v8, v9, v10, rfl⟩ ⟨rfl, hx⟩
    obtain ⟨t, f, hf, ht, hP⟩ := hR.at (i := i) (by omega)
    rw [ht] at hx
    cases hx
    have hfm := List.mem_of_getElem? hf
    have hp := hB.ps f hfm
    have hl3 := hp.l3
    obtain ⟨pa, la, lus, htt, hpa, hla, hRl⟩ := hP
    have hlo := hB.ls f hfm
    have hll := hRl.1
    have hl12 := hlo.len
    have hLl : ∀ c ∈ (lettersM (pls f.ps)).map Prod.fst, c ∈ [97, 98, 99, 109, 110] := fun c hc => by
      obtain ⟨q, hq, rfl⟩ := List.mem_map.mp hc
      unfold lettersM at hq
      obtain ⟨c', hc', rfl⟩ := List.mem_map.mp hq
      exact (List.mem_filter.mp hc').1
    have e1 := s2 _ _ htt
    refine ⟨_, rfl, .inl ⟨t, _, rfl, .inr e1, fun H4 s4 => ?_⟩⟩
    have e2 := s4 _ _ e1
    refine ⟨_, rfl, iteN (fun q => by cases q) ?_⟩
    refine ⟨_, rfl, t, _, rfl, SqT.of e2, rfl, _, rfl, iteN (by show ¬ (!decide (V.int ((3 : Nat) : Int) = V.int 3)) = true; decide) ?_⟩
    refine ⟨_, rfl, t, _, rfl, SqT.of e2, rfl, _, _, rfl, _, _, rfl, _, _, rfl, rfl, ?_⟩
    refine ⟨_, rfl, f.nm, rfl, hB.nm f hfm, fun H5 s5 => ?_⟩
    refine ⟨_, rfl, iteN (fun q => by cases q) ?_⟩
    have s25 := s4.trans s5
    refine ⟨_, rfl, _, rfl, l, rfl, ⟨_, SqL.of (s25 _ _ hus)⟩, fun D hD => ?_⟩
    have hRu5 := hRu.map fun u x _ h => h.news s25
    refine lc_it (walk_list (xs := us)) (fun j H6 => Same H5 H6 ∧ H6 D = some (.lst (((F.take i).map (fun g => V.str g.nm)).take j))) ⟨same_new hD, upd_same⟩ (fun j H6 _ ⟨s6, _⟩ => SqL.of (s6 _ _ (s25 _ _ hus))) ?_ ?_
    · rintro j x H6 H7 hj ⟨s6, h6⟩ ⟨rfl, hx⟩
      obtain ⟨u, g, hg, hu, hr⟩ := hRu5.at (i := j) (by rw [← hRu5.1]; exact hj)
      rw [hu] at hx
      cases hx
      obtain ⟨gdx, gpt, gln, glt, gfx, hg6⟩ := hr.news s6
      refine ⟨rfl, _, rfl, u, T.C_Form, gdx, _, _, rfl, hg6.o, T.cl_Form, T.nA_Form_name, look_form_name .., _, h6, ?_, fun b o e => ?_, ?_⟩
      · refine Nat.lt_of_le_of_lt (List.length_take_le' _ _) ?_
        rw [List.length_map, List.length_take]; omega
      · have bD : b ≠ D := fun z => by rw [z, hD] at e; cases e
        rw [upd_ne bD]; exact s6 _ _ e
      · rw [upd_same, List.take_succ, List.getElem?_map, hg]; rfl
    rintro H6 ⟨s6, h6⟩
    rw [List.take_of_length_le (by rw [List.length_map, ← hRu.1]; exact Nat.le_refl _)] at h6
    refine ⟨D, _, rfl, .inl (SqL.of h6), rfl, ?_, _, rfl, iteN ?_ ?_⟩
    · rw [List.all_map]; exact List.all_eq_true.mpr fun _ _ => rfl
    · rw [if_neg (by decide), inNm]
      exact dF (nodup_take hB.nd hf)
    have s26 := s25.trans s6
    have n8 := hB.n8
    refine ⟨_, rfl, _, rfl, _, rfl, pa, f.ps, n, r, rfl, .inl ((s2.trans s26) _ _ hpa), by omega, hp, fun H7 s7 => ?_⟩
    refine ⟨_, rfl, iteN (fun q => by cases q) ?_⟩
    have s27 := s26.trans s7
    refine ⟨_, rfl, .inl ⟨la, _, rfl, .inl ((s2.trans s27) _ _ hla), fun H8 s8 => ?_⟩⟩
    have s28 := s27.trans s8
    refine ⟨_, rfl, iteN (fun q => by cases q) ?_⟩
    refine ⟨_, rfl, la, _, rfl, SqL.of ((s2.trans s28) _ _ hla), _, _, rfl, rfl, _, rfl, iteN (dF (by omega)) ?_⟩
    have l1000 : lens f.ps ≤ 1000 := by
      rw [lens_le fun z hz => (hp.pat z hz).1]
      have := Nat.mul_le_mul hl3 n8
      omega
    refine ⟨_, rfl, _, rfl, _, rfl, pa, f.ps, rfl, .inl ((s2.trans s28) _ _ hpa), l1000, fun H9 lt s9 lt0 hL => ?_⟩
    intro g gd g0 gd0 gne
    have sg : Same H9 (upd (upd H9 gd (.own g)) g (.ins T.C_Grammar gd [])) := (same_new gd0).trans (same_new (by rw [upd_ne (Ne.symm gne)]; exact g0))
    refine ⟨g, gd, lt, _, n, r, rfl, upd_same, hL.news sg, ?_, by omega, by have := hB.r4; omega, fun H10 k10 hGr => ⟨rfl, ?_⟩⟩
    · exact lettersM_le _
    have s10 : Same H3 H10 := fun b o e => k10 _ _ (sg _ _ (s9 _ _ (s28 _ _ e))) fun z => by
      have := s9 _ _ (s28 _ _ e); rw [z, g0] at this; cases this
    refine ⟨_, rfl, g, la, n, r, _, f.ls, lus, rfl, hGr, .inl ((s2.trans s10) _ _ hla), hRl.map fun u x _ h => (s2.trans s10) _ _ h, hlo, hLl, fun H11 s11 => ?_⟩
    have s11' := s10.trans s11
    refine ⟨_, rfl, rfl, _, rfl, iteN (by decide) ?_⟩
    refine ⟨_, rfl, .inl ⟨rfl, _, SqL.of (s11' _ _ hus)⟩, ?_⟩
    refine ⟨_, rfl, _, rfl, pa, _, rfl, SqL.of ((s2.trans s11') _ _ hpa), fun pt pt0 => ?_⟩
    have s12 : Same H3 (upd H11 pt (.tup (f.ps.map V.str))) := s11'.trans (same_new pt0)
    refine ⟨_, rfl, la, rfl, ⟨_, SqL.of ((s2.trans s12) _ _ hla)⟩, fun D2 hD2 => ?_⟩
    have s12' := s2.trans s12
    refine lc_it (walk_list (xs := lus)) (fun j H13 => Same (upd H11 pt (.tup (f.ps.map V.str))) H13 ∧ H13 D2 = some (.lst (lus.take j))) ⟨same_new hD2, upd_same⟩ (fun j H13 _ ⟨e, _⟩ => SqL.of (e _ _ (s12' _ _ hla))) ?_ ?_
    · rintro j x H13 H14 hj ⟨s13, h13⟩ ⟨rfl, hx⟩
      obtain ⟨u, l, hl, hu, hr⟩ := hRl.at (i := j) (by omega)
      have hux := hu.symm.trans hx
      cases hux
      refine ⟨rfl, _, rfl, u, _, rfl, SqT.of (s13 _ _ (s12' _ _ hr)), _, h13, ?_, fun b o e => ?_, ?_⟩
      · exact Nat.lt_of_le_of_lt (List.length_take_le' _ _) (by omega)
      · have bD : b ≠ D2 := fun z => by rw [z, hD2] at e; cases e
        rw [upd_ne bD]; exact s13 _ _ e
      · rw [upd_same, List.take_succ, hu]; rfl
    rintro H13 ⟨s13a, h13⟩
    rw [List.take_length] at h13
    have s13 := s12.trans s13a
    refine ⟨D2, _, rfl, SqL.of h13, fun ln ln0 => ?_⟩
    have s14 := s13.trans (same_new (o := .tup lus) ln0)
    intro fa fd fa0 fd0 fne
    have hpt' : upd H13 ln (.tup lus) pt = some (.tup (f.ps.map V.str)) := same_new ln0 _ _ (s13a _ _ upd_same)
    have hln' : upd H13 ln (.tup lus) ln = some (.tup lus) := upd_same
    generalize hH14 : upd H13 ln (.tup lus) = H14 at s14 fa0 fd0 hpt' hln' ⊢
    have sg2 : Same H14 (upd (upd H14 fd (.own fa)) fa (.ins T.C_Form fd [])) := (same_new fd0).trans (same_new (by rw [upd_ne (Ne.symm fne)]; exact fa0))
    refine ⟨fa, fd, pt, ln, f, rfl, upd_same, sg2 _ _ hpt', ⟨lus, sg2 _ _ hln', hRl.map fun u x _ h => (s2.trans (s14.trans sg2)) _ _ h⟩, hl12, l1000, fun z hz => by rw [(hp.pat z hz).1]; omega, hl3, fun H15 k15 hF => ⟨rfl, ?_⟩⟩
    have s15 : Same H3 H15 := fun b o e => k15 _ _ (sg2 _ _ (s14 _ _ e)) fun z => by
      have := s14 _ _ e; rw [z, fa0] at this; cases this
    have hl15 := s15 _ _ hus
    refine ⟨l, us, _, rfl, rfl, hl15, by have := hRu.1; rw [List.length_take] at this; omega, ?_⟩
    have nl : NL H15 (upd H15 l (.lst (us ++ [V.ref fa]))) := NL.list hl15
    refine ⟨fun b o e => ?_, _, upd_same, ?_, ?_⟩
    · have bl : b ≠ l := fun z => by rw [z, l0] at e; cases e
      rw [upd_ne bl]; exact s15 _ _ (s2 _ _ e)
    · rw [List.take_succ, hf]
      exact ((hRu.map fun u x _ h => (h.news s15).nl nl).snoc (hF.nl nl))
    · exact ⟨_, _, _, _, _, _, _, rfl⟩
  · rintro σ H2 ⟨s2, us, hus, hRu, v4, v5, v6, v7, v8, v9, v10, rfl⟩
    rw [List.take_of_length_le (by omega)] at hRu
    refine ⟨_, rfl, l, us, rfl, SqL.of hus, fun t t0 => ?_⟩
    exact k _ _ (s2.trans (same_new t0)) ⟨us, upd_same, hRu.map fun u x _ h => h.news (same_new t0)⟩
end
end My

/-! G -/
namespace My
open PySem L2
local macro_rules | `(tactic| walk_at "side") => `(tactic| first | with_reducible rfl | assumption | rfl | decide | omega | exact cpow1 (by omega) (by omega) | exact cdiv (by omega) (by omega) | exact two_pos _ | exact SqL.of (by assumption) | exact SqT.of (by assumption) | exact TyX.base (TyOf.int _) | exact TyX.base (TyOf.bl _) | exact TyX.base TyOf.non | exact scal_opt _ _ | exact k_ii | exact k_bi | exact k_ni | exact k_ib | exact k_bb | exact TyX.base (TyOf.lst (by assumption)) | exact k_ll | exact k_lt)
local macro_rules | `(tactic| walk_at "p") => `(tactic| repeat (first | refine And.intro (by walk_at "side") ?_ | apply Exists.intro | refine iteN (by assumption) ?_ | refine iteP (by assumption) ?_ | refine iteN (by decide) ?_ | refine iteP (by decide) ?_))

def book4 (n r : Nat) (ft nd : Addr) : List (Str × V) := [("word", .int (n : Nat)), ("registers", .int (r : Nat)), ("forms", .ref ft), ("_named", .ref nd)]
theorem look4_word (n r : Nat) (ft nd : Addr) : (book4 n r ft nd).lookup ("word" : Str) = some (.int (n : Nat)) := by unfold book4; rw [lk, if_pos rfl]
theorem look4_registers (n r : Nat) (ft nd : Addr) : (book4 n r ft nd).lookup ("registers" : Str) = some (.int (r : Nat)) := by unfold book4; rw [lk, if_neg (by decide +kernel), lk, if_pos rfl]
theorem look4_forms (n r : Nat) (ft nd : Addr) : (book4 n r ft nd).lookup ("forms" : Str) = some (.ref ft) := by unfold book4; rw [lk, if_neg (by decide +kernel), lk, if_neg (by decide +kernel), lk, if_pos rfl]
def rowOk (es : List V) : Prop := (∀ e ∈ es, entOk e) ∧ es.length ≤ 20
def TupAt (H : Hp) (u : Addr) (es : List V) : Prop := H u = some (.tup es)
theorem FormsAt.nl {C : Addr} {H H' : Hp} {t : Addr} {F : List FM} (h : FormsAt C H t F) (s : NL H H') : FormsAt C H' t F := by
  obtain ⟨us, h1, h2⟩ := h
  exact ⟨us, s _ _ h1 (fun xs z => by cases z), h2.map fun u q _ r => r.nl s⟩
theorem sum_le1000 : ∀ ys : List Str, (∀ y ∈ ys, y.length ≤ 1000) → (ys.map (·.length)).sum ≤ ys.length * 1000
  | [], _ => by simp
  | y :: r, h => by
    have ih := sum_le1000 r fun z hz => h z (by simp [hz])
    have := h y (by simp)
    rw [List.map_cons, List.sum_cons, List.length_cons, Nat.succ_mul]; omega
theorem Refs.append {α : Type} {H : Hp} {ts us : List V} {xs ys : List α} {R : Hp → Addr → α → Prop} (h : Refs H ts xs R) (g : Refs H us ys R) : Refs H (ts ++ us) (xs ++ ys) R := by
  refine ⟨by rw [List.length_append, List.length_append, h.1, g.1], fun i x e => ?_⟩
  by_cases hi : i < xs.length
  · rw [List.getElem?_append_left hi] at e
    rw [List.getElem?_append_left (by rw [h.1]; exact hi)]
    exact h.2 i x e
  · rw [List.getElem?_append_right (by omega)] at e
    rw [List.getElem?_append_right (by rw [h.1]; omega), h.1]
    exact g.2 _ x e
theorem Refs.vals {H : Hp} {us : List V} {ls : List Ln} (h : Refs H us ls LnAt) : Refs H us (ls.map Ln.vals) TupAt := by
  refine ⟨by rw [List.length_map]; exact h.1, fun i x e => ?_⟩
  rw [List.getElem?_map] at e
  cases hl : ls[i]? with
  | none => rw [hl] at e; cases e
  | some l =>
    rw [hl] at e
    cases e
    exact h.2 i l hl
/-- entries of lines are texts of one sign or small numbers -/
theorem LnOk.row {w r : Nat} {L N : List Nat} {l : Ln} (h : LnOk w r L N l) (h8 : w ≤ 8) (h4 : r ≤ 4) (hN : ∀ i ∈ N, i < 12) : ∀ e ∈ l.vals, entOk e := by
  have p8 : 2 ^ w ≤ 2 ^ 8 := Nat.pow_le_pow_right (by decide) h8
  have reg : ∀ a : Rg, regR r L a → entOk a.v := fun a ha => by
    cases a with
    | l c => exact .inr ⟨_, rfl, by show 1 ≤ 20; decide⟩
    | n i => exact .inl ⟨i, rfl, by have : i < r := ha; omega⟩
  have num : ∀ a : Rg, numR w L a → entOk a.v := fun a ha => by
    cases a with
    | l c => exact .inr ⟨_, rfl, by show 1 ≤ 20; decide⟩
    | n i => exact .inl ⟨i, rfl, by have : i < 2 ^ w := ha; omega⟩
  have ix : ∀ i, i ∈ N → entOk (.int (i : Nat)) := fun i hi => .inl ⟨i, rfl, by have := hN i hi; omega⟩
  intro e he
  rcases List.mem_cons.mp he with rfl | he
  · exact .inr ⟨_, rfl, Nat.le_trans l.nm_len (by decide)⟩
  cases l with
  | get a => rw [List.mem_singleton.mp he]; exact reg a h
  | num a => rw [List.mem_singleton.mp he]; exact num a h
  | here => cases he
  | next => cases he
  | op o a b =>
    rcases List.mem_cons.mp he with rfl | he
    · exact ix a h.1
    · rw [List.mem_singleton.mp he]; exact ix b h.2
  | read a => rw [List.mem_singleton.mp he]; exact ix a h
  | inp p => rw [List.mem_singleton.mp he]; exact .inl ⟨p, rfl, by have : p < 6 := h; omega⟩
  | must a b =>
    rcases List.mem_cons.mp he with rfl | he
    · exact ix a h.1
    · rw [List.mem_singleton.mp he]; exact .inl ⟨b, rfl, by have := h.2; omega⟩
  | write a b =>
    rcases List.mem_cons.mp he with rfl | he
    · exact ix a h.1
    · rw [List.mem_singleton.mp he]; exact ix b h.2
  | out p a =>
    rcases List.mem_cons.mp he with rfl | he
    · exact .inl ⟨p, rfl, by have := h.1; omega⟩
    · rw [List.mem_singleton.mp he]; exact ix a h.2
  | put a b =>
    rcases List.mem_cons.mp he with rfl | he
    · exact reg a h.1
    · rw [List.mem_singleton.mp he]; exact ix b h.2
  | goto a => rw [List.mem_singleton.mp he]; exact ix a h
section
variable {P : Program} {w : World} {K : PySem.W.Frag} {mg : Str → Option Value} {base : Heap}
def sp_written (T : Txt w K mg) : Sp := fun vs H Q _ => ∃ (p dx ft nd : Addr) (F : List FM) (n r : Nat), vs = [.ref p] ∧ H p = some (.ins T.C_Book dx (book4 n r ft nd)) ∧ FormsAt T.C_Form H ft F ∧ BookOk n r F ∧
  ∀ (H' : Hp) (z : Str), Same H H' → Q (.str z) H'
theorem sp_written_len {T : Txt w K mg} {vs H Q E} (h : sp_written T vs H Q E) : vs.length = 1 := by obtain ⟨_, _, _, _, _, _, _, rfl, _⟩ := h; rfl
theorem ok_written (T : Txt w K mg) : FnOk P w K mg base CX0 2 T.f_written T.fd_written ["book"] (sp_written T) := by
  have G_written_line := ok_written_line (P := P) (w := w) (base := base) T
  refine T.F_written.ok sc_written (fun vs H Q E h => sp_written_len h) (fun cdv A outer s H vs Q E hr h => ?_)
  obtain ⟨p, dx, ft, nd, F, n, r, rfl, hp, hF, hB, k⟩ := h
  refine ⟨_, (pss_cons (ps_set (i := 1) sc_written.nd rfl (Or.inl rfl) (pe_lst (pa_cons (pe_tup (pa_cons pe_str (pa_cons (pe_fldA (pv 0)) pa_nil))) (pa_cons (pe_tup (pa_cons pe_str (pa_cons (pe_fldA (pv 0)) pa_nil))) pa_nil))))
       (pss_cons (ps_for PassesOwn.never rfl (pi_tup (pe_fldA (pv 0))) (pg_name (i := 2) sc_written.nd rfl (Or.inl rfl))
        (pss_cons (ps_expr (pe_bm PySem.F.plainAttrs_list PySem.F.slot_list_append PySem.F.type_list_append mt_append (pv 1) (pa_cons (pe_op op_catT (pe_tup (pa_cons pe_str (pa_cons (pe_fldA (pv 2)) pa_nil))) (pe_fldA (pv 2))) pa_nil)))
       (pss_one (ps_expr (pe_bm PySem.F.plainAttrs_list PySem.F.slot_list_extend PySem.F.type_list_extend mt_extendT (pv 1) (pa_cons (pe_fldA (pv 2)) pa_nil))))))
       (pss_one (ps_ret (pe_join pe_str (pe_lc (own := [("row", 3)]) rfl sc_written.nd (pi_list (pv 1)) (blkOk_by (N := ["book", "rows", "form", "row"]) (sc := defScope s_written) (by decide +kernel)) (fun _ _ _ _ _ => by (apply pg_tr; exact pg_name (i := 3) sc_written.nd rfl (Or.inl rfl); (try dsimp only [Cx.blk]) <;> exact rfl)) (fun _ _ _ _ _ => by (apply pts_tr; exact pts_nil; (try dsimp only [Cx.blk]) <;> exact rfl)) (fun _ _ _ _ _ => by (apply pe_tr; exact (pe_call G_written_line hr rfl T.g_written_line T.F_written_line.kp T.b_written_line .nil pass0 (pa_cons (pv 3) pa_nil)); (try dsimp only [Cx.blk]) <;> exact rfl)))))))), ?_⟩
  have sz : sizeLine = 16777216 := sizeLine_eq
  have n8 := hB.n8
  have r4 := hB.r4
  have b32 := hB.f32
  have hO := hp
  refine ⟨_, rfl, p, T.C_Book, dx, _, _, rfl, hp, T.cl_Book, T.nA_Book_word, look4_word .., ?_⟩
  refine ⟨by show 2 ≤ _; omega, fun u u0 => ?_⟩
  have s1 := same_new (o := .tup [.str "word", .int (n : Nat)]) u0
  refine ⟨_, rfl, p, T.C_Book, dx, _, _, rfl, s1 _ _ hp, T.cl_Book, T.nA_Book_registers, look4_registers .., ?_⟩
  refine ⟨by show 2 ≤ _; omega, fun u' u0' => ?_⟩
  have s2 := s1.trans (same_new (o := .tup [.str "registers", .int (r : Nat)]) u0')
  refine ⟨by show 2 ≤ _; omega, fun l l0 => ?_⟩
  have s3 := s2.trans (same_new (o := .lst [.ref u, .ref u']) l0)
  have nl0 : H l = none := by
    cases e : H l with
    | none => rfl
    | some o => rw [s2 _ _ e] at l0; cases l0
  have r0 : Refs (upd (upd (upd H u (.tup [.str "word", .int (n : Nat)])) u' (.tup [.str "registers", .int (r : Nat)])) l (.lst [.ref u, .ref u'])) [V.ref u, V.ref u'] [[.str "word", .int (n : Nat)], [.str "registers", .int (r : Nat)]] TupAt := by
    have a := (Refs.nil (H := upd (upd (upd H u (.tup [.str "word", .int (n : Nat)])) u' (.tup [.str "registers", .int (r : Nat)])) l (.lst [.ref u, .ref u'])) (R := TupAt)).snoc (u := u) (x := [.str "word", .int (n : Nat)]) (same_new l0 _ _ (same_new u0' _ _ upd_same))
    exact a.snoc (u := u') (x := [.str "registers", .int (r : Nat)]) (same_new l0 _ _ upd_same)
  generalize hH3 : upd (upd (upd H u (.tup [.str "word", .int (n : Nat)])) u' (.tup [.str "registers", .int (r : Nat)])) l (.lst [.ref u, .ref u']) = H3 at s3 r0 ⊢
  have hl3 : H3 l = some (.lst [.ref u, .ref u']) := by rw [← hH3]; exact upd_same
  obtain ⟨us, hus, hRu⟩ := hF
  have hFl := hRu.1
  refine ⟨_, rfl, p, T.C_Book, dx, _, _, rfl, s3 _ _ hp, T.cl_Book, T.nA_Book_forms, look4_forms .., ft, rfl, ⟨_, SqT.of (s3 _ _ hus)⟩, ?_⟩
  refine for_it (walk_tup (xs := us)) (fun i σ H2 => Same H H2 ∧ ∃ rs ess, H2 l = some (.lst rs) ∧ Refs H2 rs ess TupAt ∧ (∀ es ∈ ess, rowOk es) ∧ rs.length ≤ 2 + 13 * i ∧ ∃ v2 v3 : Option V, σ = [some (.ref p), some (.ref l), v2, v3])
    ⟨s3, _, _, hl3, r0, ?_, Nat.le_refl _, none, none, rfl⟩ (fun i σ H2 _ ⟨s2, _⟩ => SqT.of (s2 _ _ hus)) ?_ ?_
  · intro es he
    simp only [List.mem_cons, List.not_mem_nil, or_false] at he
    rcases he with rfl | rfl
    · refine ⟨fun e he => ?_, by show 2 ≤ 20; decide⟩
      simp only [List.mem_cons, List.not_mem_nil, or_false] at he
      rcases he with rfl | rfl
      · exact .inr ⟨_, rfl, by decide⟩
      · exact .inl ⟨_, rfl, by omega⟩
    · refine ⟨fun e he => ?_, by show 2 ≤ 20; decide⟩
      simp only [List.mem_cons, List.not_mem_nil, or_false] at he
      rcases he with rfl | rfl
      · exact .inr ⟨_, rfl, by decide⟩
      · exact .inl ⟨_, rfl, by omega⟩
  · rintro i x σ H2 H4 hi ⟨s4, rs, ess, hrs, hRs, hO, hlen, v2, v3, rfl⟩ ⟨rfl, hx⟩
    obtain ⟨t, f, hf, ht, hP⟩ := hRu.at (i := i) (by omega)
    rw [ht] at hx
    cases hx
    have hfm := List.mem_of_getElem? hf
    have hp' := hB.ps f hfm
    have hl3 := hp'.l3
    have hl1 := hp'.l1
    have hnm := hB.nm f hfm
    obtain ⟨fdx, fpt, fln, flt, ffx, hfo, hfpt, ⟨lus, hfln, hfR⟩, hflt, hffx⟩ := hP.news s4
    have hlo := hB.ls f hfm
    have hl12 := hlo.len
    have hfl := hfR.1
    have n4 := hB.n4
    refine ⟨_, rfl, .inl ⟨rfl, _, SqL.of hrs⟩, ?_⟩
    refine ⟨_, rfl, t, T.C_Form, fdx, _, _, rfl, hfo, T.cl_Form, T.nA_Form_name, look_form_name .., ?_⟩
    refine ⟨by show 2 ≤ _; omega, fun q q0 => ?_⟩
    have s5 := same_new (o := .tup [.str "form", .str f.nm]) q0
    refine ⟨_, rfl, t, T.C_Form, fdx, _, _, rfl, s5 _ _ hfo, T.cl_Form, T.nA_Form_patterns, look_form_patterns .., ?_⟩
    refine ⟨q, fpt, _, _, rfl, rfl, SqT.of upd_same, SqT.of (s5 _ _ hfpt), (by intro z; cases z), by rw [List.length_map]; show 2 + _ ≤ _; omega, fun z => ?_, fun _ q' q0' => ?_⟩
    · have := congrArg List.length z
      rw [List.length_map] at this
      exact absurd (show f.ps.length = 0 from this) (by omega)
    have s6 := s5.trans (same_new (o := .tup ([.str "form", .str f.nm] ++ f.ps.map V.str)) q0')
    refine ⟨l, rs, _, rfl, rfl, s6 _ _ hrs, by omega, ?_⟩
    have bl : ∀ b o, H b = some o → b ≠ l := fun b o e z => by rw [z, nl0] at e; cases e
    have nl := NL.list (s6 _ _ hrs) (o := .lst (rs ++ [V.ref q']))
    have hfo' := nl _ _ (s6 _ _ hfo) (fun xs z => by cases z)
    have hfln' := nl _ _ (s6 _ _ hfln) (fun xs z => by cases z)
    refine ⟨_, rfl, .inl ⟨rfl, _, SqL.of upd_same⟩, ?_⟩
    refine ⟨_, rfl, t, T.C_Form, fdx, _, _, rfl, hfo', T.cl_Form, T.nA_Form_lines, look_form_lines .., ?_⟩
    refine ⟨l, fln, _, lus, rfl, rfl, upd_same, hfln', by rw [List.length_append]; show rs.length + 1 + lus.length ≤ _; omega, ?_⟩
    refine ⟨fun b o e => ?_, _, (ess ++ [[.str "form", .str f.nm] ++ f.ps.map V.str]) ++ f.ls.map Ln.vals, upd_same, ?_, ?_, by simp; omega, _, _, rfl⟩
    · rw [upd_ne (bl b o e), upd_ne (bl b o e)]; exact s6 _ _ (s4 _ _ e)
    · have nl2 : NL (upd (upd (upd H4 q (.tup [.str "form", .str f.nm])) q' (.tup ([.str "form", .str f.nm] ++ f.ps.map V.str))) l (.lst (rs ++ [V.ref q']))) (upd (upd (upd (upd H4 q (.tup [.str "form", .str f.nm])) q' (.tup ([.str "form", .str f.nm] ++ f.ps.map V.str))) l (.lst (rs ++ [V.ref q']))) l (.lst (rs ++ [V.ref q'] ++ lus))) := NL.list upd_same
      refine Refs.append ((hRs.map (R' := TupAt) fun u x _ h => nl2 _ _ (nl _ _ (s6 _ _ h) (fun xs z => by cases z)) (fun xs z => by cases z)).snoc (x := [.str "form", .str f.nm] ++ f.ps.map V.str) ?_) (Refs.vals (hfR.map fun u x _ h => nl2 _ _ (nl _ _ (s6 _ _ h) (fun xs z => by cases z)) (fun xs z => by cases z)))
      exact nl2 _ _ (nl _ _ upd_same (fun xs z => by cases z)) (fun xs z => by cases z)
    · intro es he
      rcases List.mem_append.mp he with he | he
      rcases List.mem_append.mp he with he | he
      · exact hO es he
      rotate_left
      · obtain ⟨l', hl', rfl⟩ := List.mem_map.mp he
        obtain ⟨j, hj⟩ := List.getElem?_of_mem hl'
        have hjl := (List.getElem?_eq_some_iff.mp hj).1
        refine ⟨(hlo.ok j l' hj).row hB.n8 hB.r4 (fun i hi => ?_), by rw [Ln.vals_len]; have := l'.es_len; omega⟩
        have := valsTo_lt _ i hi
        rw [List.length_take] at this
        omega
      · rw [List.mem_singleton.mp he]
        refine ⟨fun e he => ?_, by rw [List.length_append, List.length_map]; show 2 + _ ≤ _; omega⟩
        rcases List.mem_append.mp he with he | he
        · simp only [List.mem_cons, List.not_mem_nil, or_false] at he
          rcases he with rfl | rfl
          · exact .inr ⟨_, rfl, by decide⟩
          · exact .inr ⟨_, rfl, by have := hnm.2.1; omega⟩
        · obtain ⟨z, hz, rfl⟩ := List.mem_map.mp he
          exact .inr ⟨_, rfl, by have := (hp'.pat z hz).1; omega⟩
  · rintro σ H2 ⟨s4, rs, ess, hrs, hRs, hO, hlen, v2, v3, rfl⟩
    have nl0' : ∀ b o, H b = some o → b ≠ l := fun b o e z => by rw [z, nl0] at e; cases e
    have hel := hRs.1
    refine ⟨⟨_, rfl⟩, _, rfl, l, rfl, ⟨_, SqL.of hrs⟩, fun D hD => ?_⟩
    refine lc_it (walk_list (xs := rs)) (fun i H5 => ∃ ys : List Str, Same H2 H5 ∧ H5 D = some (.lst (ys.map V.str)) ∧ ys.length = i ∧ ∀ y ∈ ys, y.length ≤ 1000) ⟨[], same_new hD, upd_same, rfl, by simp⟩ (fun i H5 _ ⟨_, s5, _⟩ => SqL.of (s5 _ _ hrs)) ?_ ?_
    · rintro i x H5 H6 hi ⟨ys, s5, h5, l5, b5⟩ ⟨rfl, hx⟩
      obtain ⟨t, es, he, ht, hT⟩ := hRs.at (i := i) (by omega)
      rw [ht] at hx
      cases hx
      obtain ⟨o1, o2⟩ := hO es (List.mem_of_getElem? he)
      refine ⟨rfl, _, rfl, t, es, rfl, s5 _ _ hT, o1, o2, fun H7 z s7 hz => ⟨_, s7 _ _ h5, by rw [List.length_map]; omega, ys ++ [z], fun b o e => ?_, by rw [upd_same, List.map_append]; rfl, by simp [l5], fun y hy => ?_⟩⟩
      · have bD : b ≠ D := fun z => by rw [z, hD] at e; cases e
        rw [upd_ne bD]; exact s7 _ _ (s5 _ _ e)
      · rcases List.mem_append.mp hy with hy | hy
        · exact b5 y hy
        · rw [List.mem_singleton.mp hy]; exact hz
    rintro H5 ⟨ys, s5, h5, l5, b5⟩
    have sum := sum_le1000 ys b5
    refine ⟨_, D, ys, rfl, rfl, .inl (SqL.of h5), by show _ + ys.length * 0 ≤ _; omega, ?_⟩
    exact k _ _ (s4.trans s5)
end
end My

/-! I -/
namespace My
open PySem L2
local macro_rules | `(tactic| walk_at "side") => `(tactic| first | with_reducible rfl | assumption | rfl | decide | omega | exact cpow1 (by omega) (by omega) | exact cdiv (by omega) (by omega) | exact two_pos _ | exact SqL.of (by assumption) | exact SqT.of (by assumption) | exact TyX.base (TyOf.int _) | exact TyX.base (TyOf.bl _) | exact TyX.base TyOf.non | exact scal_opt _ _ | exact k_ii | exact k_bi | exact k_ni | exact k_ib | exact k_bb | exact TyX.base (TyOf.lst (by assumption)) | exact k_ll | exact k_lt)
local macro_rules | `(tactic| walk_at "p") => `(tactic| repeat (first | refine And.intro (by walk_at "side") ?_ | apply Exists.intro | refine iteN (by assumption) ?_ | refine iteP (by assumption) ?_ | refine iteN (by decide) ?_ | refine iteP (by decide) ?_))

/-- a book of forms without lines -/
def BookAt (CB CF : Addr) (H : Hp) (p : Addr) (n r : Nat) (F : List FM) : Prop := ∃ dx ft nd tx, H p = some (.ins CB dx (bookF n r ft nd tx)) ∧ FormsAt CF H ft F
theorem FormsAt.news {C : Addr} {H H' : Hp} {t : Addr} {F : List FM} (h : FormsAt C H t F) (s : Same H H') : FormsAt C H' t F := h.nl (NL.of s)
theorem BookAt.news {CB CF : Addr} {H H' : Hp} {p : Addr} {n r : Nat} {F : List FM} (h : BookAt CB CF H p n r F) (s : Same H H') : BookAt CB CF H' p n r F := by
  obtain ⟨dx, ft, nd, tx, h1, h2⟩ := h
  exact ⟨dx, ft, nd, tx, s _ _ h1, h2.news s⟩
theorem BookAt.nl {CB CF : Addr} {H H' : Hp} {p : Addr} {n r : Nat} {F : List FM} (h : BookAt CB CF H p n r F) (s : NL H H') : BookAt CB CF H' p n r F := by
  obtain ⟨dx, ft, nd, tx, h1, h2⟩ := h
  exact ⟨dx, ft, nd, tx, s _ _ h1 (fun xs z => by cases z), h2.nl s⟩
theorem FormsAt.np {C : Addr} {H H' : Hp} {t p : Addr} {F : List FM} (h : FormsAt C H t F) {D dx : Addr} {fs : List (Str × V)} (hp : H p = some (.ins D dx fs)) (hl : fs.length ≠ 8) (s : ∀ b o, H b = some o → b ≠ p → H' b = some o) : FormsAt C H' t F := by
  have st : ∀ b xs, H b = some (.tup xs) → H' b = some (.tup xs) := fun b xs e => s b _ e fun z => by rw [z, hp] at e; cases e
  obtain ⟨us, h1, h2⟩ := h
  refine ⟨us, st _ _ h1, h2.map fun u q _ r => ?_⟩
  obtain ⟨dx, pt, ln, lt, fx, h⟩ := r
  obtain ⟨ls, l1, l2⟩ := h.lt
  obtain ⟨ms, m1, m2⟩ := h.ln
  obtain ⟨xs, x1, x2⟩ := h.fx
  refine ⟨dx, pt, ln, lt, fx, s _ _ h.o fun z => ?_, st _ _ h.pt, ⟨ms, st _ _ m1, m2.map fun _ _ _ r => st _ _ r⟩, ⟨ls, st _ _ l1, l2.map fun _ _ _ r => st _ _ r⟩, ⟨xs, st _ _ x1, x2.map fun _ _ _ r => st _ _ r⟩⟩
  have := h.o
  rw [z, hp] at this
  cases this
  exact hl rfl
section
variable {P : Program} {w : World} {K : PySem.W.Frag} {mg : Str → Option Value} {base : Heap}
/-- what the dict of the names holds -/
def NamedAt (CB : Addr) (H : Hp) (p : Addr) (F : List FM) : Prop := ∃ dx n r ft nd tx us kvs, H p = some (.ins CB dx (bookF n r ft nd tx)) ∧ H ft = some (.tup us) ∧ H nd = some (.dK kvs) ∧ us.length = F.length ∧ (∀ (i : Nat) (f : FM) (u : V), F[i]? = some f → us[i]? = some u → valV kvs (.inr f.nm) = some u) ∧ ∀ z : Str, (∀ f ∈ F, f.nm ≠ z) → valV kvs (.inr z) = none
theorem NamedAt.news {CB : Addr} {H H' : Hp} {p : Addr} {F : List FM} (h : NamedAt CB H p F) (s : Same H H') : NamedAt CB H' p F := by
  obtain ⟨dx, n, r, ft, nd, tx, us, kvs, h1, h2, h3, h4⟩ := h
  exact ⟨dx, n, r, ft, nd, tx, us, kvs, s _ _ h1, s _ _ h2, s _ _ h3, h4⟩
def sp_Book_init (T : Txt w K mg) : Sp := fun vs H Q _ => ∃ (p dx a : Addr) (ts : List V) (F : List FM) (n r : Nat), vs = [.ref p, .int (n : Nat), .int (r : Nat), .ref a] ∧ H p = some (.ins T.C_Book dx []) ∧ H a = some (.lst ts) ∧ Refs H ts F RowP ∧ BookOk n r F ∧
  ∀ H', (∀ b o, H b = some o → b ≠ p → H' b = some o) → BookAt T.C_Book T.C_Form H' p n r F → NamedAt T.C_Book H' p F → Q .non H'
theorem sp_Book_init_len {T : Txt w K mg} {vs H Q E} (h : sp_Book_init T vs H Q E) : vs.length = 4 := by obtain ⟨_, _, _, _, _, _, _, rfl, _⟩ := h; rfl
theorem ok_Book_init (T : Txt w K mg) : FnOk P w K mg base CX0 6 T.f_Book_init T.fd_Book_init ["self", "word", "registers", "forms"] (sp_Book_init T) := by
  have G_checked_forms := ok_checked_forms (P := P) (w := w) (base := base) T; have G_written := ok_written (P := P) (w := w) (base := base) T; have G_check_int := ok_check_int (P := P) (w := w) (base := base) T
  refine T.F_Book_init.ok sc_Book_init (fun vs H Q E h => sp_Book_init_len h) (fun cdv A outer s H vs Q E hr h => ?_)
  obtain ⟨p, dx, a, ts, F, n, r, rfl, hp, ha, hR, hB, k⟩ := h
  refine ⟨_, (pss_cons (ps_fld (pv 0) (pe_call G_check_int (hr.mono (by decide)) rfl T.g_check_int T.F_check_int.kp T.b_check_int .nil pass0 (pa_cons (pv 1) (pa_cons pe_int (pa_cons pe_int (pa_cons pe_str pa_nil))))) rfl)
       (pss_cons (ps_fld (pv 0) (pe_call G_check_int (hr.mono (by decide)) rfl T.g_check_int T.F_check_int.kp T.b_check_int .nil pass0 (pa_cons (pv 2) (pa_cons pe_int (pa_cons pe_int (pa_cons pe_str pa_nil))))) rfl)
       (pss_cons (ps_fld (pv 0) (pe_call G_checked_forms hr rfl T.g_checked_forms T.F_checked_forms.kp T.b_checked_forms .nil pass0 (pa_cons (pv 1) (pa_cons (pv 2) (pa_cons (pv 3) pa_nil)))) rfl)
       (pss_cons (ps_fld (pv 0) (pe_dc (own := [("form", 4)]) rfl sc_Book_init.nd (pi_tup (pe_fldA (pv 0))) (blkOk_by (N := ["self", "word", "registers", "forms", "form"]) (sc := defScope s_Book_init) (by decide +kernel)) (fun _ _ _ _ _ => by (apply pg_tr; exact pg_name (i := 4) sc_Book_init.nd rfl (Or.inl rfl); (try dsimp only [Cx.blk]) <;> exact rfl)) (fun _ _ _ _ _ => by (apply pts_tr; exact pts_nil; (try dsimp only [Cx.blk]) <;> exact rfl)) (fun _ _ _ _ _ => by (apply pe_tr; exact (pe_fldA (pv 4)); (try dsimp only [Cx.blk]) <;> exact rfl)) (fun _ _ _ _ _ => by (apply pe_tr; exact (pv 4); (try dsimp only [Cx.blk]) <;> exact rfl))) rfl)
       (pss_one (ps_fld (pv 0) (pe_call G_written (hr.mono (by decide)) rfl T.g_written T.F_written.kp T.b_written .nil pass0 (pa_cons (pv 0) pa_nil)) rfl)))))), ?_⟩
  have n8 := hB.n8
  have n4 := hB.n4
  have r1 := hB.r1
  have r4 := hB.r4
  have b32 := hB.f32
  have sz : sizeLine = 16777216 := sizeLine_eq
  refine ⟨_, rfl, _, _, _, _, rfl, by omega, by omega, ?_⟩
  refine ⟨_, rfl, p, T.C_Book, dx, _, rfl, hp, T.cl_Book, T.nA_Book_word, by decide, ?_⟩
  rw [put_book_0]
  refine ⟨_, rfl, _, _, _, _, rfl, by omega, by omega, ?_⟩
  refine ⟨_, rfl, p, T.C_Book, dx, _, rfl, upd_same, T.cl_Book, T.nA_Book_registers, by show 1 < 1000; decide, ?_⟩
  rw [put_book_1]
  have k2 : ∀ b o, H b = some o → b ≠ p → upd (upd H p (.ins T.C_Book dx [("word", .int (n : Nat))])) p (.ins T.C_Book dx [("word", .int (n : Nat)), ("registers", .int (r : Nat))]) b = some o := fun b o e hb => by rw [upd_ne hb, upd_ne hb]; exact e
  have p2 : upd (upd H p (.ins T.C_Book dx [("word", .int (n : Nat))])) p (.ins T.C_Book dx [("word", .int (n : Nat)), ("registers", .int (r : Nat))]) p = some (.ins T.C_Book dx [("word", .int (n : Nat)), ("registers", .int (r : Nat))]) := upd_same
  generalize upd (upd H p (.ins T.C_Book dx [("word", .int (n : Nat))])) p (.ins T.C_Book dx [("word", .int (n : Nat)), ("registers", .int (r : Nat))]) = H2 at k2 p2 ⊢
  have nl : ∀ b xs, H b = some (.lst xs) → H2 b = some (.lst xs) := fun b xs e => k2 _ _ e fun z => by rw [z, hp] at e; cases e
  have nt : ∀ b xs, H b = some (.tup xs) → H2 b = some (.tup xs) := fun b xs e => k2 _ _ e fun z => by rw [z, hp] at e; cases e
  refine ⟨_, rfl, _, rfl, _, rfl, a, ts, F, n, r, rfl, nl _ _ ha, hR.map fun u f _ ⟨pa, la, us, h1, h2, h3, h4⟩ => ⟨pa, la, us, nt _ _ h1, nl _ _ h2, nl _ _ h3, h4.map fun u x _ r => nt _ _ r⟩, hB, fun H3 ft s3 hF => ?_⟩
  have p3 := s3 _ _ p2
  refine ⟨_, rfl, p, T.C_Book, dx, _, rfl, p3, T.cl_Book, T.nA_Book_forms, by show 2 < 1000; decide, ?_⟩
  rw [put_book_2]
  have k4 : ∀ b o, H3 b = some o → b ≠ p → upd H3 p (.ins T.C_Book dx [("word", .int (n : Nat)), ("registers", .int (r : Nat)), ("forms", .ref ft)]) b = some o := fun b o e hb => by rw [upd_ne hb]; exact e
  have F4 := hF.np p3 (by show 2 ≠ 8; decide) k4
  have p4 : upd H3 p (.ins T.C_Book dx [("word", .int (n : Nat)), ("registers", .int (r : Nat)), ("forms", .ref ft)]) p = some (.ins T.C_Book dx [("word", .int (n : Nat)), ("registers", .int (r : Nat)), ("forms", .ref ft)]) := upd_same
  generalize upd H3 p (.ins T.C_Book dx [("word", .int (n : Nat)), ("registers", .int (r : Nat)), ("forms", .ref ft)]) = H4 at k4 p4 F4 ⊢
  have F4' := F4
  obtain ⟨us, hus, hRu⟩ := F4'
  have hul := hRu.1
  refine ⟨_, rfl, p, T.C_Book, dx, _, _, rfl, p4, T.cl_Book, T.nA_Book_forms, by rw [lk, if_neg (by decide +kernel), lk, if_neg (by decide +kernel), lk, if_pos rfl], ft, rfl, ⟨_, SqT.of hus⟩, fun D hD => ?_⟩
  refine dc_it (walk_tup (xs := us)) (fun i H5 => Same H4 H5 ∧ ∃ kvs, H5 D = some (.dK kvs) ∧ kvs.length ≤ i ∧ (∀ (j : Nat) (f : FM) (u : V), j < i → F[j]? = some f → us[j]? = some u → valV kvs (.inr f.nm) = some u) ∧ ∀ z : Str, (∀ (j : Nat) (f : FM), j < i → F[j]? = some f → f.nm ≠ z) → valV kvs (.inr z) = none) ⟨same_new hD, _, upd_same, Nat.le_refl _, fun j f u h => absurd h (Nat.not_lt_zero _), fun z _ => rfl⟩ (fun i H5 _ ⟨s5, _⟩ => SqT.of (s5 _ _ hus)) ?_ ?_
  · rintro i x H5 H6 hi ⟨s5, kvs, h5, l5, hin, hno⟩ ⟨rfl, hx⟩
    obtain ⟨u, f, hf, hu, hP⟩ := hRu.at (i := i) (by omega)
    rw [hu] at hx
    cases hx
    obtain ⟨fdx, fpt, fln, flt, ffx, hf6⟩ := hP.news s5
    refine ⟨rfl, _, rfl, u, T.C_Form, fdx, _, _, rfl, hf6.o, T.cl_Form, T.nA_Form_name, look_form_name .., _, rfl, kvs, .inr f.nm, rfl, h5, by omega, fun b o e => ?_, _, upd_same, ?_, fun j f' u' hj hf' hu' => ?_, fun z hz => ?_⟩
    · have bD : b ≠ D := fun z => by rw [z, hD] at e; cases e
      rw [upd_ne bD]; exact s5 _ _ e
    · have := length_putK kvs (.inr f.nm) (V.ref u); omega
    · rw [valV_put]
      by_cases hji : j = i
      · subst hji
        rw [hf] at hf'
        cases hf'
        rw [if_pos rfl]
        exact hu.symm.trans hu'
      · have hne : f'.nm ≠ f.nm := fun e => by
          have h1 : (F.map FM.nm)[j]? = some f'.nm := by rw [List.getElem?_map, hf']; rfl
          have h2 : (F.map FM.nm)[i]? = some f.nm := by rw [List.getElem?_map, hf]; rfl
          have g1 := List.getElem?_eq_some_iff.mp h1
          have g2 := List.getElem?_eq_some_iff.mp h2
          have pw := List.pairwise_iff_getElem.mp hB.nd
          exact pw j i g1.1 g2.1 (by omega) (by rw [g1.2, g2.2, e])
        rw [if_neg (fun e => hne (Sum.inr.inj e))]
        exact hin j f' u' (by omega) hf' hu'
    · rw [valV_put, if_neg (fun e => hz i f (by omega) hf (Sum.inr.inj e).symm)]
      exact hno z fun j f' hj hf' => hz j f' (by omega) hf'
  rintro H5 ⟨s5, kvs, h5, l5, hin, hno⟩
  have p5 := s5 _ _ p4
  refine ⟨_, rfl, p, T.C_Book, dx, _, rfl, p5, T.cl_Book, T.nA_Book__named, by show 3 < 1000; decide, ?_⟩
  rw [put_book_3]
  have k6 : ∀ b o, H5 b = some o → b ≠ p → upd H5 p (.ins T.C_Book dx (book4 n r ft D)) b = some o := fun b o e hb => by rw [upd_ne hb]; exact e
  have F6 := (F4.news s5).np p5 (by show 3 ≠ 8; decide) k6
  have p6 : upd H5 p (.ins T.C_Book dx (book4 n r ft D)) p = some (.ins T.C_Book dx (book4 n r ft D)) := upd_same
  refine ⟨_, rfl, p, dx, ft, D, F, n, r, rfl, p6, F6, hB, fun H7 tx s7 => ?_⟩
  have p7 := s7 _ _ p6
  refine ⟨_, rfl, p, T.C_Book, dx, _, rfl, p7, T.cl_Book, T.nA_Book__text, by show 4 < 1000; decide, ?_⟩
  unfold book4
  rw [put_book_4]
  have k8 : ∀ b o, H7 b = some o → b ≠ p → upd H7 p (.ins T.C_Book dx (bookF n r ft D tx)) b = some o := fun b o e hb => by rw [upd_ne hb]; exact e
  refine k _ (fun b o e hb => ?_) ⟨dx, ft, D, tx, upd_same, (F6.news s7).np p7 (by show 4 ≠ 8; decide) k8⟩ ?nm
  exact k8 _ _ (s7 _ _ (k6 _ _ (s5 _ _ (k4 _ _ (s3 _ _ (k2 _ _ e hb)) hb)) hb)) hb
  have pD : D ≠ p := fun z => by rw [z, p4] at hD; cases hD
  have pf : ft ≠ p := fun z => by rw [z, p4] at hus; cases hus
  refine ⟨dx, n, r, ft, D, tx, us, kvs, upd_same, k8 _ _ (s7 _ _ (k6 _ _ (s5 _ _ hus) pf)) pf, k8 _ _ (s7 _ _ (k6 _ _ h5 pD)) pD, hul, fun i f u hf hu => ?_, fun z hz => hno z fun j f _ hf => hz f (List.mem_of_getElem? hf)⟩
  have hi := (List.getElem?_eq_some_iff.mp hu).1
  exact hin i f u hi hf hu
end
end My

/-! U -/
namespace My
open PySem L2
local macro_rules | `(tactic| walk_at "side") => `(tactic| first | with_reducible rfl | assumption | rfl | decide | omega | exact cpow1 (by omega) (by omega) | exact cdiv (by omega) (by omega) | exact two_pos _ | exact SqL.of (by assumption) | exact SqT.of (by assumption) | exact TyX.base (TyOf.int _) | exact TyX.base (TyOf.bl _) | exact TyX.base TyOf.non | exact scal_opt _ _ | exact k_ii | exact k_bi | exact k_ni | exact k_ib | exact k_bb | exact TyX.base (TyOf.lst (by assumption)) | exact k_ll | exact k_lt)
local macro_rules | `(tactic| walk_at "p") => `(tactic| repeat (first | refine And.intro (by walk_at "side") ?_ | apply Exists.intro | refine iteN (by assumption) ?_ | refine iteP (by assumption) ?_ | refine iteN (by decide) ?_ | refine iteP (by decide) ?_))

/-- the word that a cell is -/
def cellW (n : Nat) : Option V → Option Nat
  | some (.int i) => if 0 ≤ i ∧ i < 2 ^ n then some i.toNat else none
  | _ => none
/-- the looks at the cells: the form (or none) or, of a refused one, nothing; the cells looked at -/
def decX (F : List FM) (n : Nat) (xs : List V) : Nat → List Nat → Option (Option FM) × List Nat
  | 0, L => (some none, L)
  | k + 1, L => match cellW n xs[L.length]? with
    | none => (none, L)
    | some c => match formAt F (L ++ [c]) with
      | some f => (some (some f), L ++ [c])
      | none => if goesM F (L ++ [c]) = true then decX F n xs k (L ++ [c]) else (some none, L ++ [c])
section
variable {P : Program} {w : World} {K : PySem.W.Frag} {mg : Str → Option Value} {base : Heap}
def sp_BadWords_init (T : Txt w K mg) : Sp := sp_exinit T.C_BadWords "at"
theorem sp_BadWords_init_len {T : Txt w K mg} {vs H Q E} (h : sp_BadWords_init T vs H Q E) : vs.length = 2 := sp_exinit_len h
theorem ok_BadWords_init (T : Txt w K mg) : FnOk P w K mg base CX0 1 T.f_BadWords_init T.fd_BadWords_init ["self", "at"] (sp_BadWords_init T) := by
  skip
  refine T.F_BadWords_init.ok sc_BadWords_init (fun vs H Q E h => sp_BadWords_init_len h) (fun cdv A outer s H vs Q E hr h => ?_)
  obtain ⟨a, v, rfl, ha, k⟩ := h
  refine ⟨_, (pss_one (ps_ost1 (pv 0) (pv 1))), ?_⟩
  exact ⟨_, rfl, _, rfl, a, T.C_BadWords, rfl, T.o_BadWords, T.nf_BadWords, ha, k⟩
def BadW (T : Txt w K mg) (H : Hp) (E : XK) (i : Int) : Prop := ∀ (H' : Hp) (e : Addr), Same H H' → H' e = none → E (.ref T.C_BadWords) (some e) (upd H' e (.xd [("at", .int i)]))
end
end My

/-! CA -/
namespace My
open PySem L2
local macro_rules | `(tactic| walk_at "side") => `(tactic| first | with_reducible rfl | assumption | rfl | decide | omega | exact cpow1 (by omega) (by omega) | exact cdiv (by omega) (by omega) | exact two_pos _ | exact SqL.of (by assumption) | exact SqT.of (by assumption) | exact TyX.base (TyOf.int _) | exact TyX.base (TyOf.bl _) | exact TyX.base TyOf.non | exact scal_opt _ _ | exact k_ii | exact k_bi | exact k_ni | exact k_ib | exact k_bb | exact TyX.base (TyOf.lst (by assumption)) | exact k_ll | exact k_lt)
local macro_rules | `(tactic| walk_at "p") => `(tactic| repeat (first | refine And.intro (by walk_at "side") ?_ | apply Exists.intro | refine iteN (by assumption) ?_ | refine iteP (by assumption) ?_ | refine iteN (by decide) ?_ | refine iteP (by decide) ?_))

/-! rows of words checked -/
def wB (m : Int) : V → Bool | .int v => decide (0 ≤ v ∧ v ≤ m) | _ => false
def badI (m : Int) (xs : List V) : Option Nat := xs.findIdx? fun x => !wB m x
theorem badI_at {m : Int} {xs : List V} {i : Nat} {x : V} (hx : xs[i]? = some x) (hp : ∀ j y, j < i → xs[j]? = some y → wB m y = true) (hb : wB m x = false) : badI m xs = some i := by
  have hi := (List.getElem?_eq_some_iff.mp hx).1
  have e := (List.getElem?_eq_some_iff.mp hx).2
  unfold badI
  rw [List.findIdx?_eq_some_iff_getElem]
  refine ⟨hi, by rw [e, hb]; rfl, fun j hj => ?_⟩
  have := hp j _ hj (List.getElem?_eq_getElem (by omega))
  rw [this]; decide
theorem badI_no {m : Int} {xs : List V} (hp : ∀ j y, j < xs.length → xs[j]? = some y → wB m y = true) : badI m xs = none := by
  unfold badI
  rw [List.findIdx?_eq_none_iff]
  intro x hx
  obtain ⟨j, hj, e⟩ := List.getElem_of_mem hx
  have := hp j x hj (by rw [List.getElem?_eq_getElem hj, e])
  rw [this]; rfl
def mV : Option Nat → V | some m => .int (m : Nat) | none => .non
section
variable {P : Program} {w : World} {K : PySem.W.Frag} {mg : Str → Option Value} {base : Heap}
def sp_check_length (T : Txt w K mg) : Sp := fun vs H Q E => ∃ (v : V) (many : Option Nat), vs = [v, mV many] ∧
  ((plain4 v = true ∧ BadW T H E (-1)) ∨ ∃ (q : Addr) (xs : List V), v = .ref q ∧ Row H q xs ∧ xs.length ≤ 5000 ∧ ((many = none ∨ many = some xs.length) → ∀ H', Same H H' → Q .non H') ∧ ((∃ m, many = some m ∧ m ≠ xs.length) → BadW T H E (-1)))
theorem sp_check_length_len {T : Txt w K mg} {vs H Q E} (h : sp_check_length T vs H Q E) : vs.length = 2 := by obtain ⟨_, _, rfl, _⟩ := h; rfl
theorem ok_check_length (T : Txt w K mg) : FnOk P w K mg base (L2.CX P w) 3 T.f_check_length T.fd_check_length ["row", "many"] (sp_check_length T) := by
  have G_is_row := ok_is_row (P := P) (w := w) (base := base) T; have G_BadWords_init := ok_BadWords_init (P := P) (w := w) (base := base) T
  refine T.F_check_length.okX sc_check_length (fun vs H Q E h => sp_check_length_len h) (fun cdv A outer s H vs Q E hr h => ?_)
  obtain ⟨v, many, rfl, h⟩ := h
  refine ⟨_, (pss_cons (ps_if (pt_not (pt_val (pe_call G_is_row (hr.mono (by decide)) rfl T.g_is_row T.F_is_row.kp T.b_is_row .nil pass0 (pa_cons (pv 0) pa_nil))))
        (pss_one (ps_raise rfl (takes_of rfl rfl rfl rfl) (pmk_E T.o_BadWords T.ii_BadWords T.it_BadWords G_BadWords_init hr T.b_BadWords_init (by rfl) T.g_BadWords (pa_cons (pe_un un_neg pe_int) pa_nil))))
        pss_nil)
       (pss_one (ps_if (PW.pt (pw_and (pt_cmpR op_notN (pv 1) pe_non (nomark _)) (pw_and1 (pt_cmpR op_ne (pe_callB call_len_seq (by rfl) T.n_len (by decide +kernel) (pa_cons (pv 0) pa_nil)) (pv 1) (nomark _)))))
        (pss_one (ps_raise rfl (takes_of rfl rfl rfl rfl) (pmk_E T.o_BadWords T.ii_BadWords T.it_BadWords G_BadWords_init hr T.b_BadWords_init (by rfl) T.g_BadWords (pa_cons (pe_un un_neg pe_int) pa_nil))))
        pss_nil))), ?_⟩
  rcases h with ⟨hv, bad⟩ | ⟨q, xs, rfl, hq, l5, k1, k2⟩
  · refine ⟨_, rfl, .inr ⟨v, rfl, hv, fun H1 s1 => ⟨_, rfl, iteP rfl ?_⟩⟩⟩
    exact ⟨1, rfl, raiseE fun d' hd' => bad _ d' s1 hd'⟩
  refine ⟨_, rfl, .inl ⟨q, xs, rfl, hq, fun H1 s1 => ⟨_, rfl, iteN (fun z => by cases z) ?_⟩⟩⟩
  have hq1 := hq.news s1
  cases many with
  | none => exact ⟨_, rfl, rfl, _, rfl, iteN (by show ¬ (!decide (V.non = V.non)) = true; decide) (iteN (by decide) (k1 (.inl rfl) H1 s1))⟩
  | some m =>
    refine ⟨_, rfl, rfl, _, rfl, iteP (by show (!decide (V.int (m : Nat) = V.non)) = true; rw [decide_eq_false (by intro z; cases z)]; rfl) ?_⟩
    refine ⟨_, rfl, q, xs, rfl, hq1.elim (fun z => .inl (SqL.of z)) (fun z => .inr (SqT.of z)), _, rfl, rfl, _, rfl, ?_⟩
    by_cases hm : m = xs.length
    · exact iteN (by show ¬ (!decide (V.int ((xs.length : Nat) : Int) = V.int ((m : Nat) : Int))) = true; rw [hm]; simp) (k1 (.inr (by rw [hm])) H1 s1)
    · refine iteP (by show (!decide (V.int ((xs.length : Nat) : Int) = V.int ((m : Nat) : Int))) = true; rw [decide_eq_false (by intro z; injection z with z; omega)]; rfl) ⟨1, rfl, raiseE fun d' hd' => k2 ⟨m, rfl, hm⟩ _ d' s1 hd'⟩
def sp_check_entries (T : Txt w K mg) : Sp := fun vs H Q E => ∃ (q : Addr) (xs : List V) (m : Int), vs = [.ref q, .int m] ∧ Row H q xs ∧ (∀ x ∈ xs, plain4 x = true) ∧ xs.length ≤ 5000 ∧ 
  (badI m xs = none → ∀ (H' : Hp) (t : Addr), Same H H' → H' t = some (.tup xs) → Q (.ref t) H') ∧ ∀ i, badI m xs = some i → BadW T H E (i : Nat)
theorem sp_check_entries_len {T : Txt w K mg} {vs H Q E} (h : sp_check_entries T vs H Q E) : vs.length = 2 := by obtain ⟨_, _, _, rfl, _⟩ := h; rfl
theorem ok_check_entries (T : Txt w K mg) : FnOk P w K mg base (L2.CX P w) 3 T.f_check_entries T.fd_check_entries ["row", "most"] (sp_check_entries T) := by
  have G_is_int := ok_is_int (P := P) (w := w) (base := base) T; have G_BadWords_init := ok_BadWords_init (P := P) (w := w) (base := base) T
  refine T.F_check_entries.okX sc_check_entries (fun vs H Q E h => sp_check_entries_len h) (fun cdv A outer s H vs Q E hr h => ?_)
  obtain ⟨q, xs, m, rfl, hq, hx, l5, k1, k2⟩ := h
  have sz : sizeLine = 16777216 := sizeLine_eq
  refine ⟨_, (pss_cons (ps_for (passes_of rfl) rfl (pi_enS (by rfl) T.n_enumerate (pa_cons (pv 0) pa_nil)) (pg_tup (n := 2) rfl (pgs_cons (pg_name (i := 2) sc_check_entries.nd rfl (Or.inl rfl)) (pgs_cons (pg_name (i := 3) sc_check_entries.nd rfl (Or.inl rfl)) pgs_nil)))
        (pss_one (ps_if (PW.pt (pw_or (pt_not (pt_val (pe_call G_is_int (hr.mono (by decide)) rfl T.g_is_int T.F_is_int.kp T.b_is_int .nil pass0 (pa_cons (pv 3) pa_nil)))) (pw_or (pt_cmpR op_lt (pv 3) pe_int (nomark _)) (pw_or1 (pt_cmpR op_gt (pv 3) (pv 1) (nomark _))))))
        (pss_one (ps_raise rfl (takes_of rfl rfl rfl rfl) (pmk_E T.o_BadWords T.ii_BadWords T.it_BadWords G_BadWords_init hr T.b_BadWords_init (by rfl) T.g_BadWords (pa_cons (pv 2) pa_nil))))
        pss_nil)))
       (pss_one (ps_ret (pe_callTy call_tupleS (by rfl) T.n_tuple (by decide +kernel) (pa_cons (pv 0) pa_nil))))), ?_⟩
  refine ⟨_, rfl, q, xs, rfl, hq, fun J G wk hG => ?_⟩
  refine for_it wk (fun i σ H3 => Same H H3 ∧ (∀ j y, j < i → xs[j]? = some y → wB m y = true) ∧ ∃ v2 v3 : Option V, σ = [some (.ref q), some (.int m), v2, v3]) ⟨Same.refl _, fun j y h => absurd h (Nat.not_lt_zero _), none, none, rfl⟩ ?_ ?_ ?_
  · rintro i σ H3 hi ⟨s3, _⟩
    refine hG _ ?_
    rw [hq.eq s3]
  · rintro i x σ H3 H4 hi ⟨s3, hp, v2, v3, rfl⟩ ⟨T', x', y', rfl, hT0, rfl, hx', hy⟩
    cases hx'
    have s4 := s3.trans (same_new (o := .tup [.int (i : Nat), y']) hT0)
    have hym := hx y' (List.mem_of_getElem? hy)
    refine ⟨T', _, rfl, SqT.of upd_same, rfl, _, _, rfl, _, _, rfl, rfl, ?_⟩
    generalize hH4 : upd H3 T' (.tup [.int (i : Nat), y']) = H4 at s4 ⊢
    have bad : wB m y' = false → tMkE T.C_BadWords (sp_BadWords_init T) (tCons (tVar 2) tNil) [some (.ref q), some (.int m), some (.int (i : Nat)), some y'] H4 fun cls d' H' => E cls d' H' := fun e => ⟨_, rfl, raiseE fun d' hd' => k2 i (badI_at hy hp e) _ d' s4 hd'⟩
    refine ⟨_, rfl, y', rfl, hym, _, rfl, ?_⟩
    cases y' with
    | int v =>
      refine iteN (by show ¬ (!true) = true; decide) ?_
      refine ⟨_, rfl, _, _, rfl, rfl, _, rfl, iteB (fun e => iteP rfl (bad ?_)) fun e => ?_⟩
      · have := of_decide_eq_true e
        exact decide_eq_false (by omega)
      have e1 := of_decide_eq_false e
      refine ⟨_, rfl, _, rfl, _, _, rfl, rfl, _, rfl, iteB (fun e => bad ?_) fun e => ?_⟩
      · have := of_decide_eq_true e
        exact decide_eq_false (by omega)
      have e2 := of_decide_eq_false e
      refine ⟨s4, fun j y hj hy' => ?_, _, _, rfl⟩
      by_cases hji : j = i
      · have hy2 : xs[i]? = some (V.int v) := hy
        rw [hji, hy2] at hy'
        cases hy'
        exact decide_eq_true (by omega)
      · exact hp j y (by omega) hy'
    | bl b => exact iteP rfl (iteP rfl (bad rfl))
    | non => exact iteP rfl (iteP rfl (bad rfl))
    | str z => exact iteP rfl (iteP rfl (bad rfl))
    | _ => cases hym
  · rintro σ H3 ⟨s3, hp, v2, v3, rfl⟩
    have no := badI_no hp
    rcases hq.news s3 with h | h
    · exact ⟨_, rfl, q, xs, rfl, .inl ⟨SqL.of h, fun l hl => k1 no _ l (s3.trans (same_new hl)) upd_same⟩⟩
    · exact ⟨_, rfl, q, xs, rfl, .inr ⟨SqT.of h, k1 no H3 q s3 h⟩⟩
end
end My

/-! CB -/
namespace My
open PySem L2
local macro_rules | `(tactic| walk_at "side") => `(tactic| first | with_reducible rfl | assumption | rfl | decide | omega | exact cpow1 (by omega) (by omega) | exact cdiv (by omega) (by omega) | exact two_pos _ | exact SqL.of (by assumption) | exact SqT.of (by assumption) | exact TyX.base (TyOf.int _) | exact TyX.base (TyOf.bl _) | exact TyX.base TyOf.non | exact scal_opt _ _ | exact k_ii | exact k_bi | exact k_ni | exact k_ib | exact k_bb | exact TyX.base (TyOf.lst (by assumption)) | exact k_ll | exact k_lt)
local macro_rules | `(tactic| walk_at "p") => `(tactic| repeat (first | refine And.intro (by walk_at "side") ?_ | apply Exists.intro | refine iteN (by assumption) ?_ | refine iteP (by assumption) ?_ | refine iteN (by decide) ?_ | refine iteP (by decide) ?_))

section
variable {P : Program} {w : World} {K : PySem.W.Frag} {mg : Str → Option Value} {base : Heap}
def sp_ones (_ : Txt w K mg) : Sp := fun vs H Q _ => ∃ (n : Nat), vs = [.int n] ∧ n ≤ 12 ∧ Q (.int (2 ^ n - 1)) H
theorem sp_ones_len {T : Txt w K mg} {vs H Q E} (h : sp_ones T vs H Q E) : vs.length = 1 := by obtain ⟨_, rfl, _⟩ := h; rfl
theorem ok_ones (T : Txt w K mg) : FnOk P w K mg base CX0 3 T.f_ones T.fd_ones ["width"] (sp_ones T) := by
  have G_check_int := ok_check_int (P := P) (w := w) (base := base) T
  refine T.F_ones.ok sc_ones (fun vs H Q E h => sp_ones_len h) (fun cdv A outer s H vs Q E hr h => ?_)
  obtain ⟨n, rfl, hn, k⟩ := h
  refine ⟨_, (pss_cons (ps_expr (pe_call G_check_int hr rfl T.g_check_int T.F_check_int.kp T.b_check_int .nil pass0 (pa_cons (pv 0) (pa_cons pe_int (pa_cons pe_int (pa_cons pe_str pa_nil))))))
       (pss_one (ps_ret (pe_op op_sub (pe_op op_shl pe_int (pv 0)) pe_int)))), ?_⟩
  refine ⟨_, rfl, _, _, _, _, rfl, by omega, by omega, ?_⟩
  refine ⟨_, rfl, _, _, rfl, rfl, cpow1 (by omega) (by omega), _, _, rfl, rfl, ?_⟩
  have k' : Q (V.int (1 * 2 ^ (n : Int).toNat - 1)) H := by rw [Int.one_mul, Int.toNat_natCast]; exact k
  exact k'
def sp_check_words (T : Txt w K mg) : Sp := fun vs H Q E => ∃ (v : V) (n : Nat) (many : Option Nat), vs = [v, .int (n : Nat), mV many] ∧ n ≤ 12 ∧
  ((plain4 v = true ∧ BadW T H E (-1)) ∨ ∃ (q : Addr) (xs : List V), v = .ref q ∧ Row H q xs ∧ (∀ x ∈ xs, plain4 x = true) ∧ xs.length ≤ 5000 ∧ ((∃ m, many = some m ∧ m ≠ xs.length) → BadW T H E (-1)) ∧
   ((many = none ∨ many = some xs.length) → (badI (2 ^ n - 1) xs = none → ∀ (H' : Hp) (t : Addr), Same H H' → H' t = some (.tup xs) → Q (.ref t) H') ∧ ∀ i, badI (2 ^ n - 1) xs = some i → BadW T H E (i : Nat)))
theorem sp_check_words_len {T : Txt w K mg} {vs H Q E} (h : sp_check_words T vs H Q E) : vs.length = 3 := by obtain ⟨_, _, _, rfl, _⟩ := h; rfl
theorem ok_check_words (T : Txt w K mg) : FnOk P w K mg base (L2.CX P w) 4 T.f_check_words T.fd_check_words ["row", "width", "many"] (sp_check_words T) := by
  have G_check_entries := ok_check_entries (P := P) (w := w) (base := base) T; have G_check_length := ok_check_length (P := P) (w := w) (base := base) T; have G_ones := ok_ones (P := P) (w := w) (base := base) T; have G_BadWords_init := ok_BadWords_init (P := P) (w := w) (base := base) T
  refine T.F_check_words.okX sc_check_words (fun vs H Q E h => sp_check_words_len h) (fun cdv A outer s H vs Q E hr h => ?_)
  obtain ⟨v, n, many, rfl, n12, h⟩ := h
  refine ⟨_, (pss_cons (ps_expr (pe_call G_check_length hr rfl T.g_check_length T.F_check_length.kp T.b_check_length .nil (passes_call (takes_of rfl rfl rfl rfl) (fun _ _ _ _ h => h)) (pa_cons (pv 0) (pa_cons (pv 2) pa_nil))))
       (pss_one (ps_ret (pe_call G_check_entries hr rfl T.g_check_entries T.F_check_entries.kp T.b_check_entries .nil (passes_call (takes_of rfl rfl rfl rfl) (fun _ _ _ _ h => h)) (pa_cons (pv 0) (pa_cons (pe_call G_ones hr rfl T.g_ones T.F_ones.kp T.b_ones .nil pass0 (pa_cons (pv 1) pa_nil)) pa_nil)))))), ?_⟩
  rcases h with ⟨hv, bad⟩ | ⟨q, xs, rfl, hq, hx, l5, k1, k2⟩
  · exact ⟨_, rfl, _, rfl, v, many, rfl, .inl ⟨hv, bad⟩⟩
  refine ⟨_, rfl, _, rfl, .ref q, many, rfl, .inr ⟨q, xs, rfl, hq, l5, fun hm H1 s1 => ?_, k1⟩⟩
  obtain ⟨k3, k4⟩ := k2 hm
  exact ⟨_, rfl, _, rfl, n, rfl, n12, q, xs, 2 ^ n - 1, rfl, hq.news s1, hx, l5, fun no H2 t s2 ht => k3 no H2 t (s1.trans s2) ht, fun i hi H2 e s2 he => k4 i hi H2 e (s1.trans s2) he⟩
end
end My

/-! CC -/
namespace My
open PySem L2
local macro_rules | `(tactic| walk_at "side") => `(tactic| first | with_reducible rfl | assumption | rfl | decide | omega | exact cpow1 (by omega) (by omega) | exact cdiv (by omega) (by omega) | exact two_pos _ | exact SqL.of (by assumption) | exact SqT.of (by assumption) | exact TyX.base (TyOf.int _) | exact TyX.base (TyOf.bl _) | exact TyX.base TyOf.non | exact scal_opt _ _ | exact k_ii | exact k_bi | exact k_ni | exact k_ib | exact k_bb | exact TyX.base (TyOf.lst (by assumption)) | exact k_ll | exact k_lt)
local macro_rules | `(tactic| walk_at "p") => `(tactic| repeat (first | refine And.intro (by walk_at "side") ?_ | apply Exists.intro | refine iteN (by assumption) ?_ | refine iteP (by assumption) ?_ | refine iteN (by decide) ?_ | refine iteP (by decide) ?_))

section
variable {P : Program} {w : World} {K : PySem.W.Frag} {mg : Str → Option Value} {base : Heap}
def sp_BadSource_init (T : Txt w K mg) : Sp := sp_exinit T.C_BadSource "number"
theorem sp_BadSource_init_len {T : Txt w K mg} {vs H Q E} (h : sp_BadSource_init T vs H Q E) : vs.length = 2 := sp_exinit_len h
theorem ok_BadSource_init (T : Txt w K mg) : FnOk P w K mg base CX0 1 T.f_BadSource_init T.fd_BadSource_init ["self", "number"] (sp_BadSource_init T) := by
  skip
  refine T.F_BadSource_init.ok sc_BadSource_init (fun vs H Q E h => sp_BadSource_init_len h) (fun cdv A outer s H vs Q E hr h => ?_)
  obtain ⟨a, v, rfl, ha, k⟩ := h
  refine ⟨_, (pss_one (ps_ost1 (pv 0) (pv 1))), ?_⟩
  exact ⟨_, rfl, _, rfl, a, T.C_BadSource, rfl, T.o_BadSource, T.nf_BadSource, ha, k⟩
/-- an error with its attribute gets out -/
def BadS (T : Txt w K mg) (H : Hp) (E : XK) (i : Int) : Prop := ∀ (H' : Hp) (e : Addr), Same H H' → H' e = none → E (.ref T.C_BadSource) (some e) (upd H' e (.xd [("number", .int i)]))
/-- a form by its name -/
def sp_Book_form_named (T : Txt w K mg) : Sp := fun vs H Q E => ∃ (p : Addr) (v : V) (F : List FM) (n r : Nat), vs = [.ref p, v] ∧ BookAt T.C_Book T.C_Form H p n r F ∧ NamedAt T.C_Book H p F ∧
  ((∃ (i : Nat) (f : FM), F[i]? = some f ∧ v = .str f.nm ∧ ∀ u, FormAt T.C_Form H u f → Q (.ref u) H) ∨
   (∃ z : Str, v = .str z ∧ (∀ f ∈ F, f.nm ≠ z) ∧ BadS T H E 0) ∨
   (plain4 v = true ∧ v4_s v = false ∧ BadS T H E 0))
theorem sp_Book_form_named_len {T : Txt w K mg} {vs H Q E} (h : sp_Book_form_named T vs H Q E) : vs.length = 2 := by obtain ⟨_, _, _, _, _, rfl, _⟩ := h; rfl
theorem ok_Book_form_named (T : Txt w K mg) : FnOk P w K mg base (L2.CX P w) 3 T.f_Book_form_named T.fd_Book_form_named ["self", "name"] (sp_Book_form_named T) := by
  have G_BadSource_init := ok_BadSource_init (P := P) (w := w) (base := base) T
  refine T.F_Book_form_named.okX sc_Book_form_named (fun vs H Q E h => sp_Book_form_named_len h) (fun cdv A outer s H vs Q E hr h => ?_)
  obtain ⟨p, v, F, n, r, rfl, hB, hN, h⟩ := h
  obtain ⟨dx, n', r', ft, nd, tx, us, kvs, hp, hft, hnd, hul, hin, hno⟩ := id hN
  refine ⟨_, (pss_cons (ps_if (PW.pt (pw_or (pt_not (pt_val (pe_callB call_isTy (by rfl) T.n_isinstance (by decide +kernel) (pa_cons (pv 1) (pa_cons (pe_bltn (v := .ty "str") (by rfl) T.n_str (by decide +kernel) rfl) pa_nil))))) (pw_or1 (pt_cmp (pc_dnotin (hu_of hr) (pv 1) (pe_fldA (pv 0)))))))
        (pss_one (ps_raise rfl (takes_of rfl rfl rfl rfl) (pmk_E T.o_BadSource T.ii_BadSource T.it_BadSource G_BadSource_init hr T.b_BadSource_init (by rfl) T.g_BadSource (pa_cons pe_int pa_nil))))
        pss_nil)
       (pss_one (ps_ret (pe_dget (hu_of hr) (pe_fldA (pv 0)) (pv 1) (fun _ _ => rfl))))), ?_⟩
  rcases h with ⟨i, f, hf, rfl, k⟩ | ⟨z, rfl, hz, bad⟩ | ⟨hv, hs, bad⟩
  · have hi := (List.getElem?_eq_some_iff.mp hf).1
    obtain ⟨dx2, ft2, nd2, tx2, hp2, us2, hft2, hR2⟩ := id hB
    rw [hp] at hp2
    have e1 := Option.some.inj hp2
    injection e1 with _ _ e2
    unfold bookF at e2
    simp only [List.cons.injEq, Prod.mk.injEq, V.ref.injEq, true_and, and_true] at e2
    obtain ⟨_, _, rfl, rfl, _⟩ := e2
    rw [hft] at hft2
    cases hft2
    obtain ⟨u, f', hf', hu, hP⟩ := hR2.at (i := i) hi
    rw [hf] at hf'
    cases hf'
    have hval := hin i f _ hf hu
    refine ⟨_, rfl, _, _, _, rfl, ty4 (x := .str f.nm) rfl, _, k_4s (x := .str f.nm) rfl, _, rfl, iteN (by show ¬ (!true) = true; decide) ?_⟩
    refine ⟨_, rfl, _, rfl, p, T.C_Book, dx, _, _, rfl, hp, T.cl_Book, T.nA_Book__named, look_book_named .., nd, _, rfl, .inl ⟨_, .inr f.nm, Rd.of hnd, rfl, rfl⟩, _, rfl, ?_⟩
    rw [hval]
    refine iteN (by show ¬ (!true) = true; decide) ?_
    exact ⟨_, rfl, p, T.C_Book, dx, _, _, rfl, hp, T.cl_Book, T.nA_Book__named, look_book_named .., _, rfl, nd, .ref u, rfl, .inl ⟨_, .inr f.nm, Rd.of hnd, rfl, hval.symm⟩, k u hP⟩
  · refine ⟨_, rfl, _, _, _, rfl, ty4 (x := .str z) rfl, _, k_4s (x := .str z) rfl, _, rfl, iteN (by show ¬ (!true) = true; decide) ?_⟩
    refine ⟨_, rfl, _, rfl, p, T.C_Book, dx, _, _, rfl, hp, T.cl_Book, T.nA_Book__named, look_book_named .., nd, _, rfl, .inl ⟨_, .inr z, Rd.of hnd, rfl, rfl⟩, _, rfl, ?_⟩
    rw [hno z hz]
    exact iteP rfl (raiseE fun d hd => bad _ d (Same.refl _) hd)
  · refine ⟨_, rfl, _, _, _, rfl, ty4 hv, _, k_4s hv, _, rfl, ?_⟩
    rw [hs]
    exact iteP rfl (iteP rfl (raiseE fun d hd => bad _ d (Same.refl _) hd))
end
end My

/-! CD -/
namespace My
open PySem L2
local macro_rules | `(tactic| walk_at "side") => `(tactic| first | with_reducible rfl | assumption | rfl | decide | omega | exact cpow1 (by omega) (by omega) | exact cdiv (by omega) (by omega) | exact two_pos _ | exact SqL.of (by assumption) | exact SqT.of (by assumption) | exact TyX.base (TyOf.int _) | exact TyX.base (TyOf.bl _) | exact TyX.base TyOf.non | exact scal_opt _ _ | exact k_ii | exact k_bi | exact k_ni | exact k_ib | exact k_bb | exact TyX.base (TyOf.lst (by assumption)) | exact k_ll | exact k_lt)
local macro_rules | `(tactic| walk_at "p") => `(tactic| repeat (first | refine And.intro (by walk_at "side") ?_ | apply Exists.intro | refine iteN (by assumption) ?_ | refine iteP (by assumption) ?_ | refine iteN (by decide) ?_ | refine iteP (by decide) ?_))

/-- the numbers are words of the letters' widths -/
def fitL : List (Nat × Nat) → List V → Bool
  | [], [] => true
  | q :: r, x :: xs => isW q.2 x && fitL r xs
  | _, _ => false
theorem fit_all {L : List (Nat × Nat)} {xs : List V} : fitL L xs = true ↔ L.length = xs.length ∧ ∀ (i : Nat) (q : Nat × Nat) (x : V), L[i]? = some q → xs[i]? = some x → isW q.2 x = true := by
  induction L generalizing xs with
  | nil =>
    cases xs with
    | nil => exact ⟨fun _ => ⟨rfl, fun i q x h => by simp at h⟩, fun _ => rfl⟩
    | cons x r => exact ⟨(fun h => by cases h), fun ⟨h, _⟩ => by cases h⟩
  | cons q L ih =>
    cases xs with
    | nil => exact ⟨(fun h => by cases h), fun ⟨h, _⟩ => by cases h⟩
    | cons x r =>
      show (isW q.2 x && fitL L r) = true ↔ _
      rw [Bool.and_eq_true, ih]
      refine ⟨fun ⟨h1, h2, h3⟩ => ⟨by rw [List.length_cons, List.length_cons, h2], fun i q' x' e1 e2 => ?_⟩, fun ⟨h1, h2⟩ => ⟨h2 0 q x rfl rfl, by simpa using h1, fun i q' x' e1 e2 => h2 (i + 1) q' x' e1 e2⟩⟩
      cases i with
      | zero => cases e1; cases e2; exact h1
      | succ i => exact h3 i q' x' e1 e2
section
variable {P : Program} {w : World} {K : PySem.W.Frag} {mg : Str → Option Value} {base : Heap}
theorem Row.sq {H : Hp} {q : Addr} {xs : List V} (h : Row H q xs) : SqL K H q xs ∨ SqT K H q xs := h.elim (fun z => .inl (SqL.of z)) fun z => .inr (SqT.of z)
theorem rowIx {H : Hp} {q : Addr} {xs : List V} {i : Int} {v : V} {Q : VK} (h : Row H q xs) (e : atI xs i = some v) (k : Q v H) : rIx K (.ref q) (.int i) H Q :=
  h.elim (fun z => .inl ⟨_, _, _, _, rfl, rfl, SqL.of z, e, k⟩) fun z => .inr (.inl ⟨_, _, _, _, rfl, rfl, SqT.of z, e, k⟩)
/-- the form of an instruction, or a refusal -/
def sp_form_of (T : Txt w K mg) : Sp := fun vs H Q E => ∃ (p : Addr) (v : V) (F : List FM) (n r : Nat), vs = [.ref p, v] ∧ BookAt T.C_Book T.C_Form H p n r F ∧ NamedAt T.C_Book H p F ∧ (∀ f ∈ F, (lettersM (pls f.ps)).length ≤ 64 ∧ ∀ q ∈ lettersM (pls f.ps), q.2 ≤ 64) ∧
  ((plain4 v = true ∧ BadS T H E 0) ∨
   (∃ (q : Addr) (xs : List V), v = .ref q ∧ Row H q xs ∧ xs.length ≠ 2 ∧ xs.length ≤ 1000 ∧ BadS T H E 0) ∨
   (∃ (q : Addr) (x y : V), v = .ref q ∧ Row H q [x, y] ∧ plain4 y = true ∧ BadS T H E 0) ∨
   ∃ (q nq : Addr) (x : V) (ns : List V), v = .ref q ∧ Row H q [x, .ref nq] ∧ Row H nq ns ∧ plain4 x = true ∧ (∀ y ∈ ns, plain4 y = true) ∧ ns.length ≤ 1000 ∧
    ((∀ f ∈ F, x ≠ .str f.nm) → BadS T H E 0) ∧
    ∀ (i : Nat) (f : FM), F[i]? = some f → x = .str f.nm → (fitL (lettersM (pls f.ps)) ns = true → ∀ (H' : Hp) (u : Addr), Same H H' → FormAt T.C_Form H' u f → Q (.ref u) H') ∧ (fitL (lettersM (pls f.ps)) ns = false → BadS T H E 0))
theorem sp_form_of_len {T : Txt w K mg} {vs H Q E} (h : sp_form_of T vs H Q E) : vs.length = 2 := by obtain ⟨_, _, _, _, _, rfl, _⟩ := h; rfl
theorem ok_form_of (T : Txt w K mg) : FnOk P w K mg base (L2.CX P w) 4 T.f_form_of T.fd_form_of ["book", "instruction"] (sp_form_of T) := by
  have G_Book_form_named := ok_Book_form_named (P := P) (w := w) (base := base) T; have G_is_row := ok_is_row (P := P) (w := w) (base := base) T; have G_is_word := ok_is_word (P := P) (w := w) (base := base) T; have G_BadSource_init := ok_BadSource_init (P := P) (w := w) (base := base) T
  refine T.F_form_of.okX sc_form_of (fun vs H Q E h => sp_form_of_len h) (fun cdv A outer s H vs Q E hr h => ?_)
  obtain ⟨p, v, F, n, r, rfl, hB, hN, hK, h⟩ := h
  have sz : sizeLine = 16777216 := sizeLine_eq
  refine ⟨_, (pss_cons (ps_if (PW.pt (pw_or (pt_not (pt_val (pe_call G_is_row (hr.mono (by decide)) rfl T.g_is_row T.F_is_row.kp T.b_is_row .nil pass0 (pa_cons (pv 1) pa_nil)))) (pw_or (pt_cmpR op_ne (pe_callB call_len_seq (by rfl) T.n_len (by decide +kernel) (pa_cons (pv 1) pa_nil)) pe_int (nomark _)) (pw_or1 (pt_not (pt_val (pe_call G_is_row (hr.mono (by decide)) rfl T.g_is_row T.F_is_row.kp T.b_is_row .nil pass0 (pa_cons (pe_ix ix_seq (pv 1) pe_int (fun _ _ => rfl)) pa_nil))))))))
        (pss_one (ps_raise rfl (takes_of rfl rfl rfl rfl) (pmk_E T.o_BadSource T.ii_BadSource T.it_BadSource G_BadSource_init (hr.mono (by decide)) T.b_BadSource_init (by rfl) T.g_BadSource (pa_cons pe_int pa_nil))))
        pss_nil)
       (pss_cons (ps_asg (pv 1) (pg_row (n := 2) rfl (pgs_cons (pg_name (i := 2) sc_form_of.nd rfl (Or.inl rfl)) (pgs_cons (pg_name (i := 3) sc_form_of.nd rfl (Or.inl rfl)) pgs_nil))))
       (pss_cons (ps_set (i := 4) sc_form_of.nd rfl (Or.inl rfl) (pe_meth (pv 0) T.cl_Book T.m_Book_form_named G_Book_form_named hr T.b_Book_form_named .nil (passes_call (takes_of rfl rfl rfl rfl) (fun _ _ _ _ h => h)) (pa_cons (pv 2) pa_nil)))
       (pss_cons (ps_if (pt_cmpR op_ne (pe_callB call_len_seq (by rfl) T.n_len (by decide +kernel) (pa_cons (pv 3) pa_nil)) (pe_callB call_lenT (by rfl) T.n_len (by decide +kernel) (pa_cons (pe_fldA (pv 4)) pa_nil)) (nomark _))
        (pss_one (ps_raise rfl (takes_of rfl rfl rfl rfl) (pmk_E T.o_BadSource T.ii_BadSource T.it_BadSource G_BadSource_init (hr.mono (by decide)) T.b_BadSource_init (by rfl) T.g_BadSource (pa_cons pe_int pa_nil))))
        pss_nil)
       (pss_cons (ps_for (passes_of rfl) rfl (pi_zipG (by rfl) T.n_zip (pa_cons (pe_fldA (pv 4)) (pa_cons (pv 3) pa_nil))) (pg_tup (n := 2) rfl (pgs_cons (pg_tup (n := 2) rfl (pgs_cons (pg_name (i := 5) sc_form_of.nd rfl (Or.inl rfl)) (pgs_cons (pg_name (i := 6) sc_form_of.nd rfl (Or.inl rfl)) pgs_nil))) (pgs_cons (pg_name (i := 7) sc_form_of.nd rfl (Or.inl rfl)) pgs_nil)))
        (pss_one (ps_if (pt_not (pt_val (pe_call G_is_word (hr.mono (by decide)) rfl T.g_is_word T.F_is_word.kp T.b_is_word .nil pass0 (pa_cons (pv 7) (pa_cons (pv 6) pa_nil)))))
        (pss_one (ps_raise rfl (takes_of rfl rfl rfl rfl) (pmk_E T.o_BadSource T.ii_BadSource T.it_BadSource G_BadSource_init (hr.mono (by decide)) T.b_BadSource_init (by rfl) T.g_BadSource (pa_cons pe_int pa_nil))))
        pss_nil)))
       (pss_one (ps_ret (pv 4)))))))), ?_⟩
  rcases h with ⟨hv, bad⟩ | ⟨q, xs, rfl, hq, hne, l1, bad⟩ | ⟨q, x, y, rfl, hq, hy, bad⟩ | ⟨q, nq, x, ns, rfl, hq, hnq, hx, hns, l1, k1, k2⟩
  · refine ⟨_, rfl, .inr ⟨v, rfl, hv, fun H1 s1 => ⟨_, rfl, iteP rfl (iteP rfl ?_)⟩⟩⟩
    exact raiseE fun d hd => bad _ d s1 hd
  · refine ⟨_, rfl, .inl ⟨q, xs, rfl, hq, fun H1 s1 => ⟨_, rfl, iteN (fun z => by cases z) ?_⟩⟩⟩
    refine ⟨_, rfl, q, xs, rfl, (hq.news s1).sq, rfl, _, rfl, iteP (by show (!decide (V.int ((xs.length : Nat) : Int) = V.int 2)) = true; rw [decide_eq_false (by intro z; injection z with z; omega)]; rfl) (iteP rfl ?_)⟩
    exact raiseE fun d hd => bad _ d s1 hd
  · refine ⟨_, rfl, .inl ⟨q, _, rfl, hq, fun H1 s1 => ⟨_, rfl, iteN (fun z => by cases z) ?_⟩⟩⟩
    have hq1 := hq.news s1
    refine ⟨_, rfl, q, _, rfl, hq1.sq, rfl, _, rfl, iteN (by show ¬ (!decide (V.int ((2 : Nat) : Int) = V.int 2)) = true; decide) ?_⟩
    refine ⟨_, rfl, rowIx hq1 (v := y) rfl (.inr ⟨y, rfl, hy, fun H2 s2 => ⟨_, rfl, iteP rfl ?_⟩⟩)⟩
    exact raiseE fun d hd => bad _ d (s1.trans s2) hd
  · refine ⟨_, rfl, .inl ⟨q, _, rfl, hq, fun H1 s1 => ⟨_, rfl, iteN (fun z => by cases z) ?_⟩⟩⟩
    have hq1 := hq.news s1
    refine ⟨_, rfl, q, _, rfl, hq1.sq, rfl, _, rfl, iteN (by show ¬ (!decide (V.int ((2 : Nat) : Int) = V.int 2)) = true; decide) ?_⟩
    refine ⟨_, rfl, rowIx hq1 (v := .ref nq) rfl (.inl ⟨nq, ns, rfl, hnq.news s1, fun H2 s2 => ⟨_, rfl, iteN (fun z => by cases z) ?_⟩⟩)⟩
    have s12 := s1.trans s2
    have hq2 := hq.news s12
    have hnq2 := hnq.news s12
    have hB2 := hB.news s12
    have hN2 := hN.news s12
    refine ⟨_, rfl, q, _, rfl, hq2.sq, rfl, _, _, rfl, _, _, rfl, rfl, ?_⟩
    obtain ⟨dx, n', r', ft, nd, tx, us, kvs, hp, _⟩ := id hN2
    have nom : (bookF n' r' ft nd tx).lookup ("form_named" : Str) = none := by unfold bookF; rw [lk, if_neg (by decide +kernel), lk, if_neg (by decide +kernel), lk, if_neg (by decide +kernel), lk, if_neg (by decide +kernel), lk, if_neg (by decide +kernel)]; rfl
    refine ⟨_, rfl, p, dx, _, rfl, hp, nom, _, rfl, p, x, F, n, r, rfl, hB2, hN2, ?_⟩
    have bad2 : (∀ f ∈ F, x ≠ .str f.nm) → BadS T H2 E 0 := fun z H' e s he => k1 z H' e (s12.trans s) he
    by_cases hfound : ∃ (i : Nat) (f : FM), F[i]? = some f ∧ x = .str f.nm
    case neg =>
      have no : ∀ f ∈ F, x ≠ .str f.nm := fun f hf e => by
        obtain ⟨i, hi, e2⟩ := List.getElem_of_mem hf
        exact hfound ⟨i, f, by rw [List.getElem?_eq_getElem hi, e2], e⟩
      cases x with
      | str z => exact .inr (.inl ⟨z, rfl, fun f hf e => no f hf (by rw [e]), bad2 no⟩)
      | int i => exact .inr (.inr ⟨rfl, rfl, bad2 no⟩)
      | bl b => exact .inr (.inr ⟨rfl, rfl, bad2 no⟩)
      | non => exact .inr (.inr ⟨rfl, rfl, bad2 no⟩)
      | _ => cases hx
    obtain ⟨i, f, hf, rfl⟩ := hfound
    obtain ⟨g1, g2⟩ := k2 i f hf rfl
    refine .inl ⟨i, f, hf, rfl, fun u hU => ?_⟩
    obtain ⟨fdx, pt, ln, lt, fx, hO, hpt, hln, hlt, hfx⟩ := id hU
    obtain ⟨ts, hts, hR⟩ := id hlt
    obtain ⟨L64, hb⟩ := hK f (List.mem_of_getElem? hf)
    have htl := hR.1
    have badf : fitL (lettersM (pls f.ps)) ns = false → ∀ (H' : Hp), Same H2 H' → ∀ (H3 : Hp) (e : Addr), Same H' H3 → H3 e = none → E (.ref T.C_BadSource) (some e) (upd H3 e (.xd [("number", .int 0)])) := fun z H' s H3 e s3 he => g2 z H3 e (s12.trans (s.trans s3)) he
    refine ⟨_, rfl, nq, ns, rfl, hnq2.sq, _, rfl, u, T.C_Form, fdx, _, _, rfl, hO, T.cl_Form, T.nA_Form_letters, look_form_letters .., lt, ts, rfl, SqT.of hts, rfl, _, rfl, ?_⟩
    by_cases hlen : (lettersM (pls f.ps)).length = ns.length
    case neg =>
      have hfit : fitL (lettersM (pls f.ps)) ns = false := by
        cases h : fitL (lettersM (pls f.ps)) ns with
        | false => rfl
        | true => exact absurd (fit_all.mp h).1 hlen
      refine iteP (by show (!decide (V.int ((ns.length : Nat) : Int) = V.int ((ts.length : Nat) : Int))) = true; rw [decide_eq_false (by intro z; injection z with z; omega)]; rfl) ?_
      exact raiseE fun d hd => badf hfit H2 (Same.refl _) _ d (Same.refl _) hd
    refine iteN (by show ¬ (!decide (V.int ((ns.length : Nat) : Int) = V.int ((ts.length : Nat) : Int))) = true; rw [htl, hlen]; simp) ?_
    have seqN : SeqV H2 (.ref nq) ns := .inl ⟨nq, rfl, hnq2⟩
    refine ⟨_, rfl, u, T.C_Form, fdx, _, _, rfl, hO, T.cl_Form, T.nA_Form_letters, look_form_letters .., _, rfl, .ref lt, .ref nq, _, _, rfl, .inl ⟨lt, rfl, .inr hts⟩, seqN, fun J G wk hG => ?_⟩
    refine for_it wk (fun j σ H3 => Same H2 H3 ∧ (∀ (k : Nat) (q : Nat × Nat) (y : V), k < j → (lettersM (pls f.ps))[k]? = some q → ns[k]? = some y → isW q.2 y = true) ∧ ∃ v5 v6 v7 : Option V, σ = [some (.ref p), some (.ref q), some (.str f.nm), some (.ref nq), some (.ref u), v5, v6, v7]) ⟨Same.refl _, fun k q y h => absurd h (Nat.not_lt_zero _), none, none, none, rfl⟩ ?_ ?_ ?_
    · rintro j σ H3 hj ⟨s3, _⟩
      refine hG _ (fun a e => ?_) fun a e => ?_
      · cases e; rw [s3 _ _ hts, hts]
      · cases e; rw [hnq2.eq s3]
    · rintro j z σ H3 H4 hj ⟨s3, hok, v5, v6, v7, rfl⟩ ⟨T', x', y', rfl, hT0, rfl, hx', hy'⟩
      dsimp only at hx' hy'
      obtain ⟨w', lq, hlq, hw', hr⟩ := hR.at (i := j) (by omega)
      rw [hw'] at hx'
      cases hx'
      have s4 := same_new (o := .tup [.ref w', y']) hT0
      have hr4 := s4 _ _ (s3 _ _ hr)
      have s34 := s3.trans s4
      refine ⟨T', _, rfl, SqT.of upd_same, rfl, _, _, rfl, w', _, rfl, SqT.of hr4, rfl, _, _, rfl, _, _, rfl, rfl, _, _, rfl, rfl, ?_⟩
      generalize hH4 : upd H3 T' (.tup [.ref w', y']) = H4 at s4 hr4 s34 ⊢
      refine ⟨_, rfl, _, rfl, y', lq.2, rfl, hns y' (List.mem_of_getElem? hy'), hb lq (List.mem_of_getElem? hlq), _, rfl, ?_⟩
      cases hw : isW lq.2 y' with
      | true =>
        refine iteN (by show ¬ (!true) = true; decide) ?_
        refine ⟨s34, fun k q y hk e1 e2 => ?_, _, _, _, rfl⟩
        by_cases hkj : k = j
        · rw [hkj, hlq] at e1
          rw [hkj] at e2
          have e2 := hy'.symm.trans e2
          cases e1; cases e2; exact hw
        · exact hok k q y (by omega) e1 e2
      | false =>
        refine iteP rfl ?_
        have hfit : fitL (lettersM (pls f.ps)) ns = false := by
          cases h : fitL (lettersM (pls f.ps)) ns with
          | false => rfl
          | true => have := (fit_all.mp h).2 j lq y' hlq hy'; rw [hw] at this; cases this
        exact raiseE fun d hd => badf hfit H4 s34 _ d (Same.refl _) hd
    · rintro σ H3 ⟨s3, hok, v5, v6, v7, rfl⟩
      have hfit : fitL (lettersM (pls f.ps)) ns = true := fit_all.mpr ⟨hlen, fun k q y e1 e2 => hok k q y (by have := (List.getElem?_eq_some_iff.mp e2).1; omega) e1 e2⟩
      exact ⟨_, rfl, g1 hfit H3 u (s12.trans s3) (hU.news s3)⟩
end
end My

/-! M18 -/
/-! runs of lines -/
namespace My
open PySem L2
inductive Ask | read (x : Int) | write (x y : Int) | inp (p : Nat) | out (p : Nat) (x : Int) deriving DecidableEq
def Ask.vals : Ask → List V
  | .read x => [.str "read", .int x] | .write x y => [.str "write", .int x, .int y] | .inp p => [.str "in", .int (p : Nat)] | .out p x => [.str "out", .int (p : Nat), .int x]
/-- what a run is about -/
structure RE where
  k : Nat
  lv : Nat → Int
  place : Int
  after : Int
  regs : List Int
abbrev WS := List (Option Int)
def wd (ws : WS) (i : Nat) : Int := ((ws[i]?).getD none).getD 0
def rgN (lv : Nat → Int) : Rg → Int | .l c => lv c | .n i => (i : Nat)
def regAt (E : RE) (a : Rg) : Int := (E.regs[(rgN E.lv a).toNat]?).getD 0
def valN (E : RE) (ws : WS) : Ln → Int
  | .get a => regAt E a | .num a => rgN E.lv a | .here => E.place | .next => E.after | .op o i j => opI E.k o (wd ws i) (wd ws j) | _ => 0
def Ln.isA : Ln → Bool | .read _ => true | .write _ _ => true | .inp _ => true | .out _ _ => true | _ => false
def askN (ws : WS) : Ln → Ask | .read i => .read (wd ws i) | .write i j => .write (wd ws i) (wd ws j) | .inp p => .inp p | .out p i => .out p (wd ws i) | _ => .inp 0
def causeV : Ln → V | .read _ => .int 10 | .write _ _ => .int 11 | _ => .non
structure Hand where
  cause : V
  done : Int
  place : Int
  regs : List Int
def putR (lv : Nat → Int) (ws : WS) : List Ln → List Int → List Int
  | [], rs => rs
  | .put a i :: r, rs => putR lv ws r (rs.set (rgN lv a).toNat (wd ws i))
  | _ :: r, rs => putR lv ws r rs
def goP (ws : WS) : List Ln → Int → Int
  | [], p => p
  | .goto i :: r, _ => goP ws r (wd ws i)
  | _ :: r, p => goP ws r p
def finN (E : RE) (ws : WS) (all : List Ln) : Hand := ⟨.non, 1, goP ws all E.after, putR E.lv ws all E.regs⟩
def stopN (E : RE) (c : V) : Hand := ⟨c, 0, E.place, E.regs⟩
def ansAt (ans : WS) (n : Nat) : Option Int := (ans[n]?).getD none
def runL (E : RE) (all : List Ln) (ans : WS) : List Ln → WS → List Ask → List Ask × Hand
  | [], ws, as => (as, finN E ws all)
  | l :: r, ws, as =>
    if l.isA = true then
      match ansAt ans as.length with
      | none => (as ++ [askN ws l], stopN E (causeV l))
      | some a => runL E all ans r (ws ++ [some a]) (as ++ [askN ws l])
    else match l with
      | .must i c => if wd ws i = 0 then (as, stopN E (.int (c : Nat))) else runL E all ans r (ws ++ [none]) as
      | .put _ _ => runL E all ans r (ws ++ [none]) as
      | .goto _ => runL E all ans r (ws ++ [none]) as
      | l => runL E all ans r (ws ++ [some (valN E ws l)]) as
def optsV (xs : WS) : List V := xs.map optV
def intsV (xs : List Int) : List V := xs.map V.int
theorem optsV_at {xs : WS} {i : Nat} {o : Option Int} (h : xs[i]? = some o) : (optsV xs)[i]? = some (optV o) := by unfold optsV; rw [List.getElem?_map, h]; rfl
theorem intsV_at {xs : List Int} {i : Nat} {x : Int} (h : xs[i]? = some x) : (intsV xs)[i]? = some (.int x) := by unfold intsV; rw [List.getElem?_map, h]; rfl
theorem wd_at {ws : WS} {i : Nat} {x : Int} (h : ws[i]? = some (some x)) : wd ws i = x := by unfold wd; rw [h]; rfl
/-! in the heap -/
def AskAt (H : Hp) (u : Addr) (a : Ask) : Prop := H u = some (.tup a.vals)
structure AnsAt (C : Addr) (H : Hp) (p at' sl : Addr) (ans : WS) (asks : List Ask) : Prop where
  ob : ∃ dx, H p = some (.ins C dx [("answers", .ref at'), ("asks", .ref sl)])
  an : H at' = some (.tup (optsV ans))
  sk : ∃ ts, H sl = some (.lst ts) ∧ Refs H ts asks AskAt
def doingF (u : Addr) (k : Nat) (dl : Addr) (pl af : Int) (rt wl : Addr) : List (Str × V) := [("form", .ref u), ("word", .int (k : Nat)), ("letters", .ref dl), ("place", .int pl), ("after", .int af), ("regs", .ref rt), ("words", .ref wl)]
theorem look_doing_form (u : Addr) (k : Nat) (dl : Addr) (pl af : Int) (rt wl : Addr) : (doingF u k dl pl af rt wl).lookup ("form" : Str) = some (.ref u) := by unfold doingF; rw [lk, if_pos rfl]
theorem look_doing_word (u : Addr) (k : Nat) (dl : Addr) (pl af : Int) (rt wl : Addr) : (doingF u k dl pl af rt wl).lookup ("word" : Str) = some (.int (k : Nat)) := by unfold doingF; rw [lk, if_neg (by decide +kernel), lk, if_pos rfl]
theorem look_doing_letters (u : Addr) (k : Nat) (dl : Addr) (pl af : Int) (rt wl : Addr) : (doingF u k dl pl af rt wl).lookup ("letters" : Str) = some (.ref dl) := by unfold doingF; rw [lk, if_neg (by decide +kernel), lk, if_neg (by decide +kernel), lk, if_pos rfl]
theorem look_doing_place (u : Addr) (k : Nat) (dl : Addr) (pl af : Int) (rt wl : Addr) : (doingF u k dl pl af rt wl).lookup ("place" : Str) = some (.int pl) := by unfold doingF; rw [lk, if_neg (by decide +kernel), lk, if_neg (by decide +kernel), lk, if_neg (by decide +kernel), lk, if_pos rfl]
theorem look_doing_after (u : Addr) (k : Nat) (dl : Addr) (pl af : Int) (rt wl : Addr) : (doingF u k dl pl af rt wl).lookup ("after" : Str) = some (.int af) := by unfold doingF; rw [lk, if_neg (by decide +kernel), lk, if_neg (by decide +kernel), lk, if_neg (by decide +kernel), lk, if_neg (by decide +kernel), lk, if_pos rfl]
theorem look_doing_regs (u : Addr) (k : Nat) (dl : Addr) (pl af : Int) (rt wl : Addr) : (doingF u k dl pl af rt wl).lookup ("regs" : Str) = some (.ref rt) := by unfold doingF; rw [lk, if_neg (by decide +kernel), lk, if_neg (by decide +kernel), lk, if_neg (by decide +kernel), lk, if_neg (by decide +kernel), lk, if_neg (by decide +kernel), lk, if_pos rfl]
theorem look_doing_words (u : Addr) (k : Nat) (dl : Addr) (pl af : Int) (rt wl : Addr) : (doingF u k dl pl af rt wl).lookup ("words" : Str) = some (.ref wl) := by unfold doingF; rw [lk, if_neg (by decide +kernel), lk, if_neg (by decide +kernel), lk, if_neg (by decide +kernel), lk, if_neg (by decide +kernel), lk, if_neg (by decide +kernel), lk, if_neg (by decide +kernel), lk, if_pos rfl]
theorem put_doing_0 {x0 : V} : putF "form" x0 ([] : List (Str × V)) = [(("form" : Str), x0)] := by rw [putF]
theorem put_doing_1 {x0 : V} {x1 : V} : putF "word" x1 ([(("form" : Str), x0)] : List (Str × V)) = [(("form" : Str), x0), (("word" : Str), x1)] := by rw [putF, if_neg (by decide +kernel), putF]
theorem put_doing_2 {x0 : V} {x1 : V} {x2 : V} : putF "letters" x2 ([(("form" : Str), x0), (("word" : Str), x1)] : List (Str × V)) = [(("form" : Str), x0), (("word" : Str), x1), (("letters" : Str), x2)] := by rw [putF, if_neg (by decide +kernel), putF, if_neg (by decide +kernel), putF]
theorem put_doing_3 {x0 : V} {x1 : V} {x2 : V} {x3 : V} : putF "place" x3 ([(("form" : Str), x0), (("word" : Str), x1), (("letters" : Str), x2)] : List (Str × V)) = [(("form" : Str), x0), (("word" : Str), x1), (("letters" : Str), x2), (("place" : Str), x3)] := by rw [putF, if_neg (by decide +kernel), putF, if_neg (by decide +kernel), putF, if_neg (by decide +kernel), putF]
theorem put_doing_4 {x0 : V} {x1 : V} {x2 : V} {x3 : V} {x4 : V} : putF "after" x4 ([(("form" : Str), x0), (("word" : Str), x1), (("letters" : Str), x2), (("place" : Str), x3)] : List (Str × V)) = [(("form" : Str), x0), (("word" : Str), x1), (("letters" : Str), x2), (("place" : Str), x3), (("after" : Str), x4)] := by rw [putF, if_neg (by decide +kernel), putF, if_neg (by decide +kernel), putF, if_neg (by decide +kernel), putF, if_neg (by decide +kernel), putF]
theorem put_doing_5 {x0 : V} {x1 : V} {x2 : V} {x3 : V} {x4 : V} {x5 : V} : putF "regs" x5 ([(("form" : Str), x0), (("word" : Str), x1), (("letters" : Str), x2), (("place" : Str), x3), (("after" : Str), x4)] : List (Str × V)) = [(("form" : Str), x0), (("word" : Str), x1), (("letters" : Str), x2), (("place" : Str), x3), (("after" : Str), x4), (("regs" : Str), x5)] := by rw [putF, if_neg (by decide +kernel), putF, if_neg (by decide +kernel), putF, if_neg (by decide +kernel), putF, if_neg (by decide +kernel), putF, if_neg (by decide +kernel), putF]
theorem put_doing_6 {x0 : V} {x1 : V} {x2 : V} {x3 : V} {x4 : V} {x5 : V} {x6 : V} : putF "words" x6 ([(("form" : Str), x0), (("word" : Str), x1), (("letters" : Str), x2), (("place" : Str), x3), (("after" : Str), x4), (("regs" : Str), x5)] : List (Str × V)) = [(("form" : Str), x0), (("word" : Str), x1), (("letters" : Str), x2), (("place" : Str), x3), (("after" : Str), x4), (("regs" : Str), x5), (("words" : Str), x6)] := by rw [putF, if_neg (by decide +kernel), putF, if_neg (by decide +kernel), putF, if_neg (by decide +kernel), putF, if_neg (by decide +kernel), putF, if_neg (by decide +kernel), putF, if_neg (by decide +kernel), putF]
/-- a run going on: its words at wl -/
structure DoAt (C CF : Addr) (H : Hp) (p wl : Addr) (f : FM) (E : RE) (L : List Nat) (ws : WS) : Prop where
  ex : ∃ dx u dl rt kvs, H p = some (.ins C dx (doingF u E.k dl E.place E.after rt wl)) ∧ FormAt CF H u f ∧ H dl = some (.dK kvs) ∧ (∀ c ∈ L, valV kvs (.inr (sg c)) = some (.int (E.lv c))) ∧ H rt = some (.tup (intsV E.regs))
  wl : H wl = some (.lst (optsV ws))
theorem DoAt.news {C CF : Addr} {H H' : Hp} {p wl : Addr} {f : FM} {E : RE} {L : List Nat} {ws : WS} (h : DoAt C CF H p wl f E L ws) (s : Same H H') : DoAt C CF H' p wl f E L ws := by
  obtain ⟨⟨dx, u, dl, rt, kvs, h1, h2, h3, h4, h5⟩, h6⟩ := h
  exact ⟨⟨dx, u, dl, rt, kvs, s _ _ h1, h2.news s, s _ _ h3, h4, s _ _ h5⟩, s _ _ h6⟩
def HandAt (H : Hp) (t : Addr) (h : Hand) : Prop := ∃ rt, H t = some (.tup [h.cause, .int h.done, .int h.place, .ref rt]) ∧ H rt = some (.tup (intsV h.regs))
/-- value lines so far have words -/
def WsOk (ls : List Ln) (ws : WS) : Prop := ws.length = ls.length ∧ ∀ i ∈ valsTo ls, ∃ x, ws[i]? = some (some x)
end My

/-! J -/
namespace My
open PySem L2
local macro_rules | `(tactic| walk_at "side") => `(tactic| first | with_reducible rfl | assumption | rfl | decide | omega | exact cpow1 (by omega) (by omega) | exact cdiv (by omega) (by omega) | exact two_pos _ | exact SqL.of (by assumption) | exact SqT.of (by assumption) | exact TyX.base (TyOf.int _) | exact TyX.base (TyOf.bl _) | exact TyX.base TyOf.non | exact scal_opt _ _ | exact k_ii | exact k_bi | exact k_ni | exact k_ib | exact k_bb | exact TyX.base (TyOf.lst (by assumption)) | exact k_ll | exact k_lt)
local macro_rules | `(tactic| walk_at "p") => `(tactic| repeat (first | refine And.intro (by walk_at "side") ?_ | apply Exists.intro | refine iteN (by assumption) ?_ | refine iteP (by assumption) ?_ | refine iteN (by decide) ?_ | refine iteP (by decide) ?_))

/-- letters with their numbers -/
def lkv (L : List (Nat × Nat)) (ns : List Int) : List (Key × V) := (L.zip ns).map fun q => ((.inr (sg q.1.1) : Key), V.int q.2)
def lvOf (L : List (Nat × Nat)) (ns : List Int) (c : Nat) : Int := (((L.zip ns).find? fun q => decide (q.1.1 = c)).map (·.2)).getD 0
theorem lkv_len (L : List (Nat × Nat)) (ns : List Int) : (lkv L ns).length ≤ L.length := by unfold lkv; rw [List.length_map, List.length_zip]; omega
theorem valV_find {kvs : List (Key × V)} {k : Key} : valV kvs k = (kvs.find? fun kv => decide (kv.1 = k)).map (·.2) := rfl
theorem lkv_find (c : Nat) : ∀ Z : List ((Nat × Nat) × Int), valV (Z.map fun q => ((.inr (sg q.1.1) : Key), V.int q.2)) (.inr (sg c)) = ((Z.find? fun q => decide (q.1.1 = c)).map (·.2)).map V.int
  | [] => rfl
  | q :: r => by
    have ih := lkv_find c r
    rw [valV_find] at ih ⊢
    rw [List.map_cons, List.find?_cons, List.find?_cons]
    by_cases h : q.1.1 = c
    · rw [decide_eq_true (p := (Sum.inr (sg q.1.1) : Key) = .inr (sg c)) (by rw [h]), decide_eq_true h]; rfl
    · rw [decide_eq_false (p := (Sum.inr (sg q.1.1) : Key) = .inr (sg c)) (fun z => h (sg_inj'.mp z)), decide_eq_false h]
      exact ih
theorem lkv_val {L : List (Nat × Nat)} {ns : List Int} {c : Nat} (h : c ∈ L.map Prod.fst) (hl : ns.length = L.length) : valV (lkv L ns) (.inr (sg c)) = some (.int (lvOf L ns c)) := by
  unfold lkv lvOf
  rw [lkv_find]
  cases hf : (L.zip ns).find? fun q => decide (q.1.1 = c) with
  | some q => rfl
  | none =>
    exfalso
    obtain ⟨q, hq, rfl⟩ := List.mem_map.mp h
    obtain ⟨i, hi⟩ := List.getElem?_of_mem hq
    have il := (List.getElem?_eq_some_iff.mp hi).1
    have hx := List.getElem?_eq_getElem (l := ns) (i := i) (by omega)
    have hz : (L.zip ns)[i]? = some (q, ns[i]) := List.getElem?_zip_eq_some.mpr ⟨hi, hx⟩
    have := List.find?_eq_none.mp hf _ (List.mem_of_getElem? hz)
    exact this (decide_eq_true rfl)
theorem lkv_int (L : List (Nat × Nat)) (ns : List Int) (i : Int) : valV (lkv L ns) (.inl i) = none := by
  unfold lkv
  rw [valV_find]
  have : ((L.zip ns).map fun q => ((.inr (sg q.1.1) : Key), V.int q.2)).find? (fun kv => decide (kv.1 = (.inl i : Key))) = none := by
    rw [List.find?_eq_none]
    intro kv hkv
    obtain ⟨q, _, rfl⟩ := List.mem_map.mp hkv
    simp
  rw [this]; rfl
theorem letters_nd (ps : List (List Nat)) : ((lettersM ps).map Prod.fst).Nodup := by
  unfold lettersM
  rw [List.map_map]
  have : (Prod.fst ∘ fun c => (c, List.count c ps.flatten)) = (id : Nat → Nat) := rfl
  rw [this, List.map_id]
  exact List.Pairwise.filter _ (by decide : lettersN.Nodup)
theorem lkv_put {L : List (Nat × Nat)} {ns : List Int} (nd : (L.map Prod.fst).Nodup) {i : Nat} {q : Nat × Nat} {x : Int} (hq : L[i]? = some q) (hx : ns[i]? = some x) : putK (lkv (L.take i) (ns.take i)) (.inr (sg q.1)) (.int x) = lkv (L.take (i + 1)) (ns.take (i + 1)) := by
  have hi := (List.getElem?_eq_some_iff.mp hq).1
  have hj := (List.getElem?_eq_some_iff.mp hx).1
  have no : ¬ ((lkv (L.take i) (ns.take i)).any fun kv => decide (kv.1 = (.inr (sg q.1) : Key))) = true := by
    intro h
    obtain ⟨kv, hkv, e⟩ := List.any_eq_true.mp h
    unfold lkv at hkv
    obtain ⟨z, hz, rfl⟩ := List.mem_map.mp hkv
    have e1 := sg_inj'.mp (of_decide_eq_true e)
    obtain ⟨j, hj⟩ := List.getElem?_of_mem hz
    obtain ⟨h1, _⟩ := List.getElem?_zip_eq_some.mp hj
    rw [List.getElem?_take] at h1
    split at h1
    · rename_i hji
      have g1 : (L.map Prod.fst)[j]? = some z.1.1 := by rw [List.getElem?_map, h1]; rfl
      have g2 : (L.map Prod.fst)[i]? = some q.1 := by rw [List.getElem?_map, hq]; rfl
      have a1 := List.getElem?_eq_some_iff.mp g1
      have a2 := List.getElem?_eq_some_iff.mp g2
      exact List.pairwise_iff_getElem.mp nd j i a1.1 a2.1 hji (by rw [a1.2, a2.2, e1])
    · cases h1
  unfold putK
  rw [if_neg no]
  unfold lkv
  rw [List.take_succ, hq, List.take_succ (l := ns), hx]
  show _ = List.map _ (List.zip (L.take i ++ [q]) (ns.take i ++ [x]))
  rw [List.zip_append (by rw [List.length_take, List.length_take]; omega), List.map_append]
  rfl
section
variable {P : Program} {w : World} {K : PySem.W.Frag} {mg : Str → Option Value} {base : Heap}
def sp_op_word (_ : Txt w K mg) : Sp := fun vs H Q _ => ∃ (o : Op) (x y : Int) (n : Nat), vs = [.str o.s, .int x, .int y, .int n] ∧ n ≤ 12 ∧ Q (.int (opI n o x y)) H
theorem sp_op_word_len {T : Txt w K mg} {vs H Q E} (h : sp_op_word T vs H Q E) : vs.length = 4 := by obtain ⟨_, _, _, _, rfl, _⟩ := h; rfl
theorem if_lt {Q : V → Hp → Prop} {H : Hp} {x y : Int} (k : Q (V.int (if x < y then 1 else 0)) H) : if decide (x < y) = true then Q (V.int 1) H else Q (V.int 0) H := by
  by_cases c : x < y
  · rw [if_pos c] at k; rw [if_pos (decide_eq_true c)]; exact k
  · rw [if_neg c] at k; rw [if_neg (fun z => c (of_decide_eq_true z))]; exact k
theorem if_eq {Q : V → Hp → Prop} {H : Hp} {x y : Int} (k : Q (V.int (if x = y then 1 else 0)) H) : if decide (V.int x = V.int y) = true then Q (V.int 1) H else Q (V.int 0) H := by
  by_cases c : x = y
  · rw [if_pos c] at k; rw [if_pos (decide_eq_true (congrArg V.int c))]; exact k
  · rw [if_neg c] at k; rw [if_neg (fun z => c (by have := of_decide_eq_true z; injection this))]; exact k
theorem ok_op_word (T : Txt w K mg) : FnOk P w K mg base CX0 1 T.f_op_word T.fd_op_word ["name", "one", "other", "width"] (sp_op_word T) := by
  skip
  refine T.F_op_word.ok sc_op_word (fun vs H Q E h => sp_op_word_len h) (fun cdv A outer s H vs Q E hr h => ?_)
  obtain ⟨o, x, y, n, rfl, hn, k⟩ := h
  refine ⟨_, (pss_cons (ps_if (pt_cmpR op_eq (pv 0) pe_str (nomark _))
        (pss_one (ps_ret (pe_op op_and (pe_op op_add (pv 1) (pv 2)) (pe_op op_sub (pe_op op_shl pe_int (pv 3)) pe_int))))
        pss_nil)
       (pss_cons (ps_if (pt_cmpR op_eq (pv 0) pe_str (nomark _))
        (pss_one (ps_ret (pe_op op_and (pe_op op_sub (pv 1) (pv 2)) (pe_op op_sub (pe_op op_shl pe_int (pv 3)) pe_int))))
        pss_nil)
       (pss_cons (ps_if (pt_cmpR op_eq (pv 0) pe_str (nomark _))
        (pss_one (ps_ret (pe_op op_and (pv 1) (pv 2))))
        pss_nil)
       (pss_cons (ps_if (pt_cmpR op_eq (pv 0) pe_str (nomark _))
        (pss_one (ps_ret (pe_op op_or (pv 1) (pv 2))))
        pss_nil)
       (pss_cons (ps_if (pt_cmpR op_eq (pv 0) pe_str (nomark _))
        (pss_one (ps_ret (pe_op op_xor (pv 1) (pv 2))))
        pss_nil)
       (pss_cons (ps_if (pt_cmpR op_eq (pv 0) pe_str (nomark _))
        (pss_one (ps_ret (pe_ifExp (pt_cmpR op_lt (pv 1) (pv 2) (nomark _)) pe_int pe_int)))
        pss_nil)
       (pss_one (ps_ret (pe_ifExp (pt_cmpR op_eq (pv 1) (pv 2) (nomark _)) pe_int pe_int))))))))), ?_⟩
  cases o
  · walk_at "p"
    show Q (V.int (Builtin.bitAnd (x + y) _)) H
    rw [mask_eq]; exact k
  · walk_at "p"
    show Q (V.int (Builtin.bitAnd (x - y) _)) H
    rw [mask_eq]; exact k
  · walk_at "p"
    exact k
  · walk_at "p"
    exact k
  · walk_at "p"
    exact k
  · walk_at "p"
    exact if_lt k
  · walk_at "p"
    exact if_eq k
def sp_letters_told (T : Txt w K mg) : Sp := fun vs H Q _ => ∃ (u nq : Addr) (f : FM) (ns : List Int), vs = [.ref u, .ref nq] ∧ FormAt T.C_Form H u f ∧ Row H nq (intsV ns) ∧ ns.length = (lettersM (pls f.ps)).length ∧
  ∀ H' d, Same H H' → H d = none → H' d = some (.dK (lkv (lettersM (pls f.ps)) ns)) → Q (.ref d) H'
theorem sp_letters_told_len {T : Txt w K mg} {vs H Q E} (h : sp_letters_told T vs H Q E) : vs.length = 2 := by obtain ⟨_, _, _, _, rfl, _⟩ := h; rfl
theorem ok_letters_told (T : Txt w K mg) : FnOk P w K mg base CX0 1 T.f_letters_told T.fd_letters_told ["form", "numbers"] (sp_letters_told T) := by
  skip
  refine T.F_letters_told.ok sc_letters_told (fun vs H Q E h => sp_letters_told_len h) (fun cdv A outer s H vs Q E hr h => ?_)
  obtain ⟨u, nq, f, ns, rfl, hF, hn, hl, k⟩ := h
  have sz : sizeLine = 16777216 := sizeLine_eq
  obtain ⟨dx, pt, ln, lt, fx, hO, hpt, hln, hlt, hfx⟩ := id hF
  obtain ⟨ts, hts, hR⟩ := id hlt
  have htl := hR.1
  have L5 := lettersM_le (pls f.ps)
  have nd := letters_nd (pls f.ps)
  have inl : (intsV ns).length = ns.length := by unfold intsV; rw [List.length_map]
  refine ⟨_, (pss_one (ps_ret (pe_dc (own := [("letter", 2), ("_", 3), ("number", 4)]) rfl sc_letters_told.nd (pi_zipG (by rfl) T.n_zip (pa_cons (pe_fldA (pv 0)) (pa_cons (pv 1) pa_nil))) (blkOk_by (N := ["form", "numbers", "letter", "_", "number"]) (sc := defScope s_letters_told) (by decide +kernel)) (fun _ _ _ _ _ => by (apply pg_tr; exact (pg_tup (n := 2) rfl (pgs_cons (pg_tup (n := 2) rfl (pgs_cons (pg_name (i := 2) sc_letters_told.nd rfl (Or.inl rfl)) (pgs_cons (pg_name (i := 3) sc_letters_told.nd rfl (Or.inl rfl)) pgs_nil))) (pgs_cons (pg_name (i := 4) sc_letters_told.nd rfl (Or.inl rfl)) pgs_nil))); (try dsimp only [Cx.blk]) <;> exact rfl)) (fun _ _ _ _ _ => by (apply pts_tr; exact pts_nil; (try dsimp only [Cx.blk]) <;> exact rfl)) (fun _ _ _ _ _ => by (apply pe_tr; exact (pv 2); (try dsimp only [Cx.blk]) <;> exact rfl)) (fun _ _ _ _ _ => by (apply pe_tr; exact (pv 4); (try dsimp only [Cx.blk]) <;> exact rfl))))), ?_⟩
  refine ⟨_, rfl, u, T.C_Form, dx, _, _, rfl, hO, T.cl_Form, T.nA_Form_letters, look_form_letters .., _, rfl, .ref lt, .ref nq, _, _, rfl, .inl ⟨lt, rfl, .inr hts⟩, .inl ⟨nq, rfl, hn⟩, fun J G wk hG D hD => ?_⟩
  refine dc_it wk (fun i H2 => Same H H2 ∧ H2 D = some (.dK (lkv ((lettersM (pls f.ps)).take i) (ns.take i)))) ⟨same_new hD, upd_same⟩ ?_ ?_ ?_
  · rintro i H2 hi ⟨s2, _⟩
    refine hG _ (fun a e => ?_) fun a e => ?_
    · cases e; rw [s2 _ _ hts, hts]
    · cases e; rw [hn.eq s2]
  · rintro i x H2 H3 hi ⟨s2, h2⟩ ⟨T', x', y', rfl, hT0, rfl, hx', hy'⟩
    dsimp only at hx' hy'
    obtain ⟨w', lq, hlq, hw', hr⟩ := hR.at (i := i) (by omega)
    rw [hw'] at hx'
    cases hx'
    obtain ⟨xi, hxi, rfl⟩ : ∃ xi, ns[i]? = some xi ∧ y' = V.int xi := by
      unfold intsV at hy'
      rw [List.getElem?_map] at hy'
      cases h : ns[i]? with
      | none => rw [h] at hy'; cases hy'
      | some z => rw [h] at hy'; exact ⟨z, rfl, (Option.some.inj hy').symm⟩
    have s4 := same_new (o := .tup [.ref w', .int xi]) hT0
    have hr4 := s4 _ _ (s2 _ _ hr)
    refine ⟨T', _, rfl, SqT.of upd_same, rfl, _, _, rfl, w', _, rfl, SqT.of hr4, rfl, _, _, rfl, _, _, rfl, rfl, _, _, rfl, rfl, rfl, _, rfl, _, rfl, _, .inr (sg lq.1), rfl, s4 _ _ h2, ?_, fun b o e => ?_, ?_⟩
    · have := lkv_len ((lettersM (pls f.ps)).take i) (ns.take i)
      rw [List.length_take] at this
      omega
    · have bD : b ≠ D := fun z => by rw [z, hD] at e; cases e
      rw [upd_ne bD]; exact s4 _ _ (s2 _ _ e)
    · rw [upd_same, lkv_put nd hlq hxi]
  · rintro H2 ⟨s2, h2⟩
    rw [List.take_of_length_le (by omega), List.take_of_length_le (by omega)] at h2
    exact k _ D s2 hD h2
end
end My

/-! JB -/
namespace My
open PySem L2
local macro_rules | `(tactic| walk_at "side") => `(tactic| first | with_reducible rfl | assumption | rfl | decide | omega | exact cpow1 (by omega) (by omega) | exact cdiv (by omega) (by omega) | exact two_pos _ | exact SqL.of (by assumption) | exact SqT.of (by assumption) | exact TyX.base (TyOf.int _) | exact TyX.base (TyOf.bl _) | exact TyX.base TyOf.non | exact scal_opt _ _ | exact k_ii | exact k_bi | exact k_ni | exact k_ib | exact k_bb | exact TyX.base (TyOf.lst (by assumption)) | exact k_ll | exact k_lt)
local macro_rules | `(tactic| walk_at "p") => `(tactic| repeat (first | refine And.intro (by walk_at "side") ?_ | apply Exists.intro | refine iteN (by assumption) ?_ | refine iteP (by assumption) ?_ | refine iteN (by decide) ?_ | refine iteP (by decide) ?_))

theorem optsV_len (xs : WS) : (optsV xs).length = xs.length := by unfold optsV; rw [List.length_map]
theorem intsV_len (xs : List Int) : (intsV xs).length = xs.length := by unfold intsV; rw [List.length_map]
theorem optsV_snoc (xs : WS) (o : Option Int) : optsV xs ++ [optV o] = optsV (xs ++ [o]) := by unfold optsV; rw [List.map_append]; rfl
theorem ansF_look1 (a b : Addr) : ([(("answers" : Str), V.ref a), ("asks", .ref b)]).lookup ("answers" : Str) = some (.ref a) := by rw [lk, if_pos rfl]
theorem ansF_look2 (a b : Addr) : ([(("answers" : Str), V.ref a), ("asks", .ref b)]).lookup ("asks" : Str) = some (.ref b) := by rw [lk, if_neg (by decide +kernel), lk, if_pos rfl]
section
variable {P : Program} {w : World} {K : PySem.W.Frag} {mg : Str → Option Value} {base : Heap}
def sp_answer_at (_ : Txt w K mg) : Sp := fun vs H Q _ => ∃ (a : Addr) (ans : WS) (n : Nat), vs = [.ref a, .int (n : Nat)] ∧ H a = some (.tup (optsV ans)) ∧ Q (optV (ansAt ans n)) H
theorem sp_answer_at_len {T : Txt w K mg} {vs H Q E} (h : sp_answer_at T vs H Q E) : vs.length = 2 := by obtain ⟨_, _, _, rfl, _⟩ := h; rfl
theorem ok_answer_at (T : Txt w K mg) : FnOk P w K mg base CX0 1 T.f_answer_at T.fd_answer_at ["answers", "at"] (sp_answer_at T) := by
  skip
  refine T.F_answer_at.ok sc_answer_at (fun vs H Q E h => sp_answer_at_len h) (fun cdv A outer s H vs Q E hr h => ?_)
  obtain ⟨a, ans, n, rfl, ha, k⟩ := h
  refine ⟨_, (pss_one (ps_ret (pe_ifExp (pt_cmpR op_lt (pv 1) (pe_callB call_lenT (by rfl) T.n_len (by decide +kernel) (pa_cons (pv 0) pa_nil)) (nomark _)) (pe_ix ix_tup (pv 0) (pv 1) (fun _ _ => rfl)) pe_non))), ?_⟩
  refine ⟨_, rfl, _, rfl, a, _, rfl, SqT.of ha, _, _, rfl, rfl, _, rfl, ?_⟩
  rw [optsV_len]
  by_cases h : n < ans.length
  · refine iteP (dT (by omega)) ?_
    have e := List.getElem?_eq_getElem h
    refine ⟨_, rfl, _, rfl, a, _, _, _, rfl, rfl, SqT.of ha, atI_nat (optsV_at e), ?_⟩
    unfold ansAt at k
    rw [e] at k
    exact k
  · refine iteN (dF (by omega)) ?_
    unfold ansAt at k
    rw [List.getElem?_eq_none (by omega)] at k
    exact k
def sp_Answers_init (T : Txt w K mg) : Sp := fun vs H Q _ => ∃ (p dx a : Addr) (ans : WS), vs = [.ref p, .ref a] ∧ H p = some (.ins T.C_Answers dx []) ∧ H a = some (.tup (optsV ans)) ∧
  ∀ H' sl, (∀ b o, H b = some o → b ≠ p → H' b = some o) → H sl = none → AnsAt T.C_Answers H' p a sl ans [] → Q .non H'
theorem sp_Answers_init_len {T : Txt w K mg} {vs H Q E} (h : sp_Answers_init T vs H Q E) : vs.length = 2 := by obtain ⟨_, _, _, _, rfl, _⟩ := h; rfl
theorem ok_Answers_init (T : Txt w K mg) : FnOk P w K mg base CX0 1 T.f_Answers_init T.fd_Answers_init ["self", "answers"] (sp_Answers_init T) := by
  skip
  refine T.F_Answers_init.ok sc_Answers_init (fun vs H Q E h => sp_Answers_init_len h) (fun cdv A outer s H vs Q E hr h => ?_)
  obtain ⟨p, dx, a, ans, rfl, hp, ha, k⟩ := h
  refine ⟨_, (pss_cons (ps_fld (pv 0) (pv 1) rfl)
       (pss_one (ps_fld (pv 0) (pe_lst pa_nil) rfl))), ?_⟩
  have pa : a ≠ p := fun z => by rw [z, hp] at ha; cases ha
  refine ⟨_, rfl, _, rfl, p, T.C_Answers, dx, _, rfl, hp, T.cl_Answers, T.nA_Answers_answers, by decide, ?_⟩
  rw [show putF "answers" (V.ref a) [] = [(("answers" : Str), V.ref a)] from rfl]
  have kp : ∀ b o, H b = some o → b ≠ p → upd H p (.ins T.C_Answers dx [("answers", .ref a)]) b = some o := fun b o e hb => by rw [upd_ne hb]; exact e
  have hp2 : upd H p (.ins T.C_Answers dx [("answers", .ref a)]) p = some (.ins T.C_Answers dx [("answers", .ref a)]) := upd_same
  have back : ∀ b, upd H p (.ins T.C_Answers dx [("answers", .ref a)]) b = none → H b = none := fun b e => by
    by_cases hb : b = p
    · rw [hb, hp2] at e; cases e
    · rw [upd_ne hb] at e; exact e
  generalize upd H p (.ins T.C_Answers dx [("answers", .ref a)]) = H2 at kp hp2 back ⊢
  refine ⟨Nat.zero_le _, fun sl sl0 => ?_⟩
  have psl : sl ≠ p := fun z => by rw [z, hp2] at sl0; cases sl0
  refine ⟨_, rfl, p, T.C_Answers, dx, _, rfl, by rw [upd_ne psl.symm]; exact hp2, T.cl_Answers, T.nA_Answers_asks, by show 1 < 1000; decide, ?_⟩
  rw [show putF "asks" (V.ref sl) [(("answers" : Str), V.ref a)] = [(("answers" : Str), V.ref a), ("asks", V.ref sl)] from by rw [putF, if_neg (by decide +kernel), putF]]
  have hslN := back sl sl0
  refine k _ sl (fun b o e hb => ?_) hslN ⟨⟨dx, upd_same⟩, ?_, [], ?_, Refs.nil⟩
  · have : b ≠ sl := fun z => by rw [z, hslN] at e; cases e
    rw [upd_ne hb, upd_ne this]; exact kp _ _ e hb
  · have : a ≠ sl := fun z => by rw [z, hslN] at ha; cases ha
    rw [upd_ne pa, upd_ne this]; exact kp _ _ ha pa
  · rw [upd_ne psl, upd_same]
def sp_Answers_answer (T : Txt w K mg) : Sp := fun vs H Q _ => ∃ (p u at' sl : Addr) (ans : WS) (asks : List Ask) (a : Ask), vs = [.ref p, .ref u] ∧ AnsAt T.C_Answers H p at' sl ans asks ∧ AskAt H u a ∧ asks.length ≤ 100 ∧
  ∀ H', (∀ b o, H b = some o → b ≠ sl → H' b = some o) → AnsAt T.C_Answers H' p at' sl ans (asks ++ [a]) → Q (optV (ansAt ans asks.length)) H'
theorem sp_Answers_answer_len {T : Txt w K mg} {vs H Q E} (h : sp_Answers_answer T vs H Q E) : vs.length = 2 := by obtain ⟨_, _, _, _, _, _, _, rfl, _⟩ := h; rfl
theorem ok_Answers_answer (T : Txt w K mg) : FnOk P w K mg base CX0 2 T.f_Answers_answer T.fd_Answers_answer ["self", "ask"] (sp_Answers_answer T) := by
  have G_answer_at := ok_answer_at (P := P) (w := w) (base := base) T
  refine T.F_Answers_answer.ok sc_Answers_answer (fun vs H Q E h => sp_Answers_answer_len h) (fun cdv A outer s H vs Q E hr h => ?_)
  obtain ⟨p, u, at', sl, ans, asks, a, rfl, ⟨⟨dx, hp⟩, ha, ts, hs, hR⟩, hu, l100, k⟩ := h
  refine ⟨_, (pss_cons (ps_set (i := 2) sc_Answers_answer.nd rfl (Or.inl rfl) (pe_callB call_lenL (by rfl) T.n_len (by decide +kernel) (pa_cons (pe_fldA (pv 0)) pa_nil)))
       (pss_cons (ps_expr (pe_bm PySem.F.plainAttrs_list PySem.F.slot_list_append PySem.F.type_list_append mt_append (pe_fldA (pv 0)) (pa_cons (pv 1) pa_nil)))
       (pss_one (ps_ret (pe_call G_answer_at hr rfl T.g_answer_at T.F_answer_at.kp T.b_answer_at .nil pass0 (pa_cons (pe_fldA (pv 0)) (pa_cons (pv 2) pa_nil))))))), ?_⟩
  have sz : sizeLine = 16777216 := sizeLine_eq
  have htl := hR.1
  refine ⟨_, rfl, p, T.C_Answers, dx, _, _, rfl, hp, T.cl_Answers, T.nA_Answers_asks, ansF_look2 .., sl, _, rfl, SqL.of hs, ?_⟩
  refine ⟨_, rfl, p, T.C_Answers, dx, _, _, rfl, hp, T.cl_Answers, T.nA_Answers_asks, ansF_look2 .., .inl ⟨rfl, _, SqL.of hs⟩, _, rfl, sl, _, _, rfl, rfl, hs, by omega, ?_⟩
  have ps : p ≠ sl := ne_of hp hs (by intro z; cases z)
  have as' : at' ≠ sl := ne_of ha hs (by intro z; cases z)
  have us : u ≠ sl := ne_of hu hs (by intro z; cases z)
  have nl := NL.list hs (o := .lst (ts ++ [V.ref u]))
  have hp2 : upd H sl (.lst (ts ++ [V.ref u])) p = some (.ins T.C_Answers dx [("answers", .ref at'), ("asks", .ref sl)]) := by rw [upd_ne ps]; exact hp
  have ha2 : upd H sl (.lst (ts ++ [V.ref u])) at' = some (.tup (optsV ans)) := by rw [upd_ne as']; exact ha
  refine ⟨_, rfl, p, T.C_Answers, dx, _, _, rfl, hp2, T.cl_Answers, T.nA_Answers_answers, ansF_look1 .., _, rfl, at', ans, asks.length, by rw [htl]; rfl, ha2, ?_⟩
  refine k _ (fun b o e hb => by rw [upd_ne hb]; exact e) ⟨⟨dx, hp2⟩, ha2, _, upd_same, ?_⟩
  refine (hR.map fun x y _ r => nl _ _ r fun xs z => by cases z).snoc ?_
  exact nl _ _ hu fun xs z => by cases z
def sp_Doing_told (T : Txt w K mg) : Sp := fun vs H Q _ => ∃ (p wl : Addr) (f : FM) (E : RE) (L : List Nat) (ws : WS) (a : Rg), vs = [.ref p, a.v] ∧ DoAt T.C_Doing T.C_Form H p wl f E L ws ∧ (∀ c, a = .l c → c ∈ L) ∧ Q (.int (rgN E.lv a)) H
theorem sp_Doing_told_len {T : Txt w K mg} {vs H Q E} (h : sp_Doing_told T vs H Q E) : vs.length = 2 := by obtain ⟨_, _, _, _, _, _, _, rfl, _⟩ := h; rfl
theorem ok_Doing_told (T : Txt w K mg) : FnOk P w K mg base CX0 1 T.f_Doing_told T.fd_Doing_told ["self", "entry"] (sp_Doing_told T) := by
  skip
  refine T.F_Doing_told.ok sc_Doing_told (fun vs H Q E h => sp_Doing_told_len h) (fun cdv A outer s H vs Q E hr h => ?_)
  obtain ⟨p, wl, f, E', L, ws, a, rfl, ⟨⟨dx, u, dl, rt, kvs, h1, h2, h3, h4, h5⟩, h6⟩, hL, k⟩ := h
  refine ⟨_, (pss_one (ps_ret (pe_ifExp (pt_val (pe_callB call_isTy (by rfl) T.n_isinstance (by decide +kernel) (pa_cons (pv 1) (pa_cons (pe_bltn (v := .ty "str") (by rfl) T.n_str (by decide +kernel) rfl) pa_nil)))) (pe_dget (hu_of hr) (pe_fldA (pv 0)) (pv 1) (fun _ _ => rfl)) (pv 1)))), ?_⟩
  cases a with
  | l c =>
    refine ⟨_, rfl, _, _, _, rfl, ty4 (x := .str (sg c)) rfl, _, k_4s (x := .str (sg c)) rfl, _, rfl, iteP rfl ?_⟩
    exact ⟨_, rfl, p, T.C_Doing, dx, _, _, rfl, h1, T.cl_Doing, T.nA_Doing_letters, look_doing_letters .., _, rfl, dl, _, rfl, .inl ⟨_, .inr (sg c), Rd.of h3, rfl, (h4 c (hL c rfl)).symm⟩, k⟩
  | n i =>
    refine ⟨_, rfl, _, _, _, rfl, ty4 (x := .int (i : Nat)) rfl, _, k_4s (x := .int (i : Nat)) rfl, _, rfl, iteN (by intro z; cases z) ?_⟩
    exact ⟨_, rfl, k⟩
def sp_Doing_stopped (T : Txt w K mg) : Sp := fun vs H Q _ => ∃ (p wl : Addr) (f : FM) (E : RE) (L : List Nat) (ws : WS) (c : V), vs = [.ref p, c] ∧ DoAt T.C_Doing T.C_Form H p wl f E L ws ∧ ∀ H' t, Same H H' → H t = none → HandAt H' t (stopN E c) → Q (.ref t) H'
theorem sp_Doing_stopped_len {T : Txt w K mg} {vs H Q E} (h : sp_Doing_stopped T vs H Q E) : vs.length = 2 := by obtain ⟨_, _, _, _, _, _, _, rfl, _⟩ := h; rfl
theorem ok_Doing_stopped (T : Txt w K mg) : FnOk P w K mg base CX0 1 T.f_Doing_stopped T.fd_Doing_stopped ["self", "cause"] (sp_Doing_stopped T) := by
  skip
  refine T.F_Doing_stopped.ok sc_Doing_stopped (fun vs H Q E h => sp_Doing_stopped_len h) (fun cdv A outer s H vs Q E hr h => ?_)
  obtain ⟨p, wl, f, E', L, ws, c, rfl, ⟨⟨dx, u, dl, rt, kvs, h1, h2, h3, h4, h5⟩, h6⟩, k⟩ := h
  refine ⟨_, (pss_one (ps_ret (pe_tup (pa_cons (pv 1) (pa_cons pe_int (pa_cons (pe_fldA (pv 0)) (pa_cons (pe_fldA (pv 0)) pa_nil))))))), ?_⟩
  have sz : sizeLine = 16777216 := sizeLine_eq
  refine ⟨_, rfl, _, rfl, p, T.C_Doing, dx, _, _, rfl, h1, T.cl_Doing, T.nA_Doing_place, look_doing_place .., ?_⟩
  refine ⟨_, rfl, p, T.C_Doing, dx, _, _, rfl, h1, T.cl_Doing, T.nA_Doing_regs, look_doing_regs .., by show 4 ≤ _; omega, fun t t0 => ?_⟩
  exact k _ t (same_new t0) t0 ⟨rt, upd_same, same_new t0 _ _ h5⟩
end
end My

/-! JC -/
namespace My
open PySem L2
local macro_rules | `(tactic| walk_at "side") => `(tactic| first | with_reducible rfl | assumption | rfl | decide | omega | exact cpow1 (by omega) (by omega) | exact cdiv (by omega) (by omega) | exact two_pos _ | exact SqL.of (by assumption) | exact SqT.of (by assumption) | exact TyX.base (TyOf.int _) | exact TyX.base (TyOf.bl _) | exact TyX.base TyOf.non | exact scal_opt _ _ | exact k_ii | exact k_bi | exact k_ni | exact k_ib | exact k_bb | exact TyX.base (TyOf.lst (by assumption)) | exact k_ll | exact k_lt)
local macro_rules | `(tactic| walk_at "p") => `(tactic| repeat (first | refine And.intro (by walk_at "side") ?_ | apply Exists.intro | refine iteN (by assumption) ?_ | refine iteP (by assumption) ?_ | refine iteN (by decide) ?_ | refine iteP (by decide) ?_))

theorem nm_dec (z : Str) (P : Nat → Bool) (h : (List.range 18).all (fun k => decide (V.str (kdNm k) = V.str z) == P k) = true) (l : Ln) : decide (V.str l.nm = V.str z) = P l.kd :=
  eq_of_beq (nm_all (P := fun y k => decide (V.str y = V.str z) == P k) h l)
theorem ixN_ok {n : Nat} {i : Int} (h0 : 0 ≤ i) (h1 : i < n) : ixN n i = some i.toNat := by
  unfold ixN
  rw [if_pos h0, if_pos h1]
theorem atI_int {α : Type} {xs : List α} {i : Int} {v : α} (h0 : 0 ≤ i) (h : xs[i.toNat]? = some v) : atI xs i = some v := by
  have := atI_nat h
  rw [show ((i.toNat : Nat) : Int) = i by omega] at this
  exact this
theorem putR_snoc (lv : Nat → Int) (ws : WS) (l : Ln) : ∀ (ls : List Ln) (rs : List Int), putR lv ws (ls ++ [l]) rs = putR lv ws [l] (putR lv ws ls rs)
  | [], rs => rfl
  | k :: r, rs => by
    cases k with
    | put a i => exact putR_snoc lv ws l r _
    | _ => exact putR_snoc lv ws l r rs
theorem goP_snoc (ws : WS) (l : Ln) : ∀ (ls : List Ln) (p : Int), goP ws (ls ++ [l]) p = goP ws [l] (goP ws ls p)
  | [], p => rfl
  | k :: r, p => by
    cases k with
    | goto i => exact goP_snoc ws l r _
    | _ => exact goP_snoc ws l r p
theorem putR_len (lv : Nat → Int) (ws : WS) : ∀ (ls : List Ln) (rs : List Int), (putR lv ws ls rs).length = rs.length
  | [], rs => rfl
  | k :: r, rs => by
    cases k with
    | put a i =>
      show (putR lv ws r (rs.set _ _)).length = _
      rw [putR_len lv ws r, List.length_set]
    | _ => exact putR_len lv ws r rs
theorem intsV_set (xs : List Int) (j : Nat) (x : Int) : (intsV xs).set j (.int x) = intsV (xs.set j x) := by unfold intsV; rw [List.map_set]
/-- registers that a line may name are there -/
def RegOk (r : Nat) (L : List Nat) (E : RE) : Prop := (∀ a : Rg, regR r L a → 0 ≤ rgN E.lv a ∧ rgN E.lv a < E.regs.length) ∧ E.regs.length ≤ 16
section
variable {P : Program} {w : World} {K : PySem.W.Frag} {mg : Str → Option Value} {base : Heap}
def sp_Doing_ask (T : Txt w K mg) : Sp := fun vs H Q _ => ∃ (p u wl : Addr) (f : FM) (E : RE) (L N : List Nat) (ws : WS) (l : Ln) (n r : Nat), vs = [.ref p, .ref u] ∧ DoAt T.C_Doing T.C_Form H p wl f E L ws ∧ LnAt H u l ∧ l.isA = true ∧ LnOk n r L N l ∧ (∀ i ∈ N, ∃ x, ws[i]? = some (some x)) ∧
  ∀ H' t, Same H H' → H t = none → AskAt H' t (askN ws l) → Q (.ref t) H'
theorem sp_Doing_ask_len {T : Txt w K mg} {vs H Q E} (h : sp_Doing_ask T vs H Q E) : vs.length = 2 := by obtain ⟨_, _, _, _, _, _, _, _, _, _, _, rfl, _⟩ := h; rfl
theorem ok_Doing_ask (T : Txt w K mg) : FnOk P w K mg base CX0 1 T.f_Doing_ask T.fd_Doing_ask ["self", "line"] (sp_Doing_ask T) := by
  skip
  refine T.F_Doing_ask.ok sc_Doing_ask (fun vs H Q E h => sp_Doing_ask_len h) (fun cdv A outer s H vs Q E hr h => ?_)
  obtain ⟨p, u, wl, f, E', L, N, ws, l, n, r, rfl, hD, hu, hA, hok, hN, k⟩ := h
  obtain ⟨⟨dx, fu, dl, rt, kvs, h1, h2, h3, h4, h5⟩, h6⟩ := id hD
  have sz : sizeLine = 16777216 := sizeLine_eq
  have hk : (∃ q, l = .inp q) ∨ (∃ q i, l = .out q i) ∨ ∃ is : List Nat, l.es = natsV is ∧ (l.kd == 12) = false ∧ (l.kd == 15) = false ∧ is ≠ [] ∧ is.length ≤ 2 ∧ (∀ i ∈ is, i ∈ N) ∧ (askN ws l).vals = .str l.nm :: intsV (is.map (wd ws)) := by
    cases l with
    | inp q => exact .inl ⟨q, rfl⟩
    | out q i => exact .inr (.inl ⟨q, i, rfl⟩)
    | read i => exact .inr (.inr ⟨[i], rfl, rfl, rfl, by simp, by simp, fun j hj => by rw [List.mem_singleton.mp hj]; exact hok, rfl⟩)
    | write i j => exact .inr (.inr ⟨[i, j], rfl, rfl, rfl, by simp, by simp, fun j' hj => by
        rcases List.mem_cons.mp hj with rfl | hj
        · exact hok.1
        · rw [List.mem_singleton.mp hj]; exact hok.2, rfl⟩)
    | _ => cases hA
  refine ⟨_, (pss_cons (ps_if (pt_cmpR op_eq (pe_ix ix_tup (pv 1) pe_int (fun _ _ => rfl)) pe_str (nomark _))
        (pss_one (ps_ret (pe_tup (pa_cons pe_str (pa_cons (pe_ix ix_tup (pv 1) pe_int (fun _ _ => rfl)) pa_nil)))))
        pss_nil)
       (pss_cons (ps_if (pt_cmpR op_eq (pe_ix ix_tup (pv 1) pe_int (fun _ _ => rfl)) pe_str (nomark _))
        (pss_one (ps_ret (pe_tup (pa_cons pe_str (pa_cons (pe_ix ix_tup (pv 1) pe_int (fun _ _ => rfl)) (pa_cons (pe_ix ix_list (pe_fldA (pv 0)) (pe_ix ix_tup (pv 1) pe_int (fun _ _ => rfl)) (fun _ _ => rfl)) pa_nil))))))
        pss_nil)
       (pss_one (ps_ret (pe_op op_catT (pe_tup (pa_cons (pe_ix ix_tup (pv 1) pe_int (fun _ _ => rfl)) pa_nil)) (pe_callTy call_tupleL (by rfl) T.n_tuple (by decide +kernel) (pa_cons (pe_lc (own := [("number", 2)]) rfl sc_Doing_ask.nd (pi_tup (pe_slice sl_tup (pv 1) (po_some pe_int) po_none)) (blkOk_by (N := ["self", "line", "number"]) (sc := defScope s_Doing_ask) (by decide +kernel)) (fun _ _ _ _ _ => by (apply pg_tr; exact pg_name (i := 2) sc_Doing_ask.nd rfl (Or.inl rfl); (try dsimp only [Cx.blk]) <;> exact rfl)) (fun _ _ _ _ _ => by (apply pts_tr; exact pts_nil; (try dsimp only [Cx.blk]) <;> exact rfl)) (fun _ _ _ _ _ => by (apply pe_tr; exact (pe_ix ix_list (pe_fldA (pv 0)) (pv 2) (fun _ _ => rfl)); (try dsimp only [Cx.blk]) <;> exact rfl))) pa_nil))))))), ?_⟩
  refine ⟨_, rfl, u, _, _, _, rfl, rfl, SqT.of hu, ln_at0 l, rfl, _, rfl, ?_⟩
  rw [nm_dec "in" (· == 12) (by decide +kernel)]
  rcases hk with ⟨q, rfl⟩ | ⟨q, i, rfl⟩ | ⟨is, he, k12, k15, i0, i2, iN, hv⟩
  · refine iteP rfl ?_
    refine ⟨_, rfl, u, _, _, _, rfl, rfl, SqT.of hu, ln_at1 (l := .inp q) rfl, by show 2 ≤ _; omega, fun t t0 => ?_⟩
    exact k _ t (same_new t0) t0 upd_same
  · refine iteN (by intro z; cases z) ?_
    refine ⟨_, rfl, u, _, _, _, rfl, rfl, SqT.of hu, ln_at0 _, rfl, _, rfl, ?_⟩
    rw [nm_dec "out" (· == 15) (by decide +kernel)]
    refine iteP rfl ?_
    obtain ⟨x, hx⟩ := hN i hok.2
    refine ⟨_, rfl, u, _, _, _, rfl, rfl, SqT.of hu, ln_at1 (l := .out q i) rfl, ?_⟩
    refine ⟨_, rfl, p, T.C_Doing, dx, _, _, rfl, h1, T.cl_Doing, T.nA_Doing_words, look_doing_words .., ?_⟩
    refine ⟨_, rfl, u, _, _, _, rfl, rfl, SqT.of hu, ln_at2 (l := .out q i) rfl, wl, _, _, _, rfl, rfl, SqL.of h6, atI_nat (optsV_at hx), by show 3 ≤ _; omega, fun t t0 => ?_⟩
    refine k _ t (same_new t0) t0 ?_
    show upd H t _ t = _
    rw [upd_same]
    show _ = some (HO.tup [V.str "out", V.int (q : Nat), V.int (wd ws i)])
    rw [wd_at hx]; rfl
  · rw [k12]
    refine iteN (by decide) ?_
    refine ⟨_, rfl, u, _, _, _, rfl, rfl, SqT.of hu, ln_at0 _, rfl, _, rfl, ?_⟩
    rw [nm_dec "out" (· == 15) (by decide +kernel), k15]
    refine iteN (by decide) ?_
    refine ⟨_, rfl, u, _, _, _, rfl, rfl, SqT.of hu, ln_at0 _, by show 1 ≤ _; omega, fun p1 p10 => ?_⟩
    have s1 := same_new (o := .tup [.str l.nm]) p10
    refine ⟨_, rfl, _, rfl, u, _, rfl, SqT.of (s1 _ _ hu), cut1_part _ _, fun p2 p20 => ?_⟩
    rw [show cutV l.vals (some 1) none = l.es from cut1 _ _, he]
    have s2 := s1.trans (same_new (o := .tup (natsV is)) p20)
    have hp1 := same_new (o := .tup (natsV is)) p20 _ _ (show upd H p1 (.tup [.str l.nm]) p1 = some (.tup [.str l.nm]) from upd_same)
    have hp2 : upd (upd H p1 (.tup [.str l.nm])) p2 (.tup (natsV is)) p2 = some (.tup (natsV is)) := upd_same
    generalize upd (upd H p1 (.tup [.str l.nm])) p2 (.tup (natsV is)) = H2 at s2 hp1 hp2 ⊢
    refine ⟨p2, rfl, ⟨_, SqT.of hp2⟩, fun D hD0 => ?_⟩
    refine lc_it (walk_tup (xs := natsV is)) (fun i H3 => Same H2 H3 ∧ H3 D = some (.lst (intsV ((is.take i).map (wd ws))))) ⟨same_new hD0, upd_same⟩ (fun i H3 _ ⟨s3, _⟩ => SqT.of (s3 _ _ hp2)) ?_ ?_
    · rintro i x H3 H4 hi ⟨s3, h3'⟩ ⟨rfl, hx⟩
      rw [natsV_len] at hi
      have hil := List.getElem?_eq_getElem hi
      generalize is[i] = j at hil
      have hxj : x = V.int (j : Nat) := by
        unfold natsV at hx
        rw [List.getElem?_map, hil] at hx
        exact (Option.some.inj hx).symm
      subst hxj
      obtain ⟨y, hy⟩ := hN j (iN j (List.mem_of_getElem? hil))
      have s23 := s2.trans s3
      refine ⟨rfl, _, rfl, p, T.C_Doing, dx, _, _, rfl, s23 _ _ h1, T.cl_Doing, T.nA_Doing_words, look_doing_words .., ?_⟩
      refine ⟨_, rfl, wl, _, _, _, rfl, rfl, SqL.of (s23 _ _ h6), atI_nat (optsV_at hy), _, h3', ?_, fun b o e => ?_, ?_⟩
      · rw [intsV_len, List.length_map, List.length_take]; omega
      · have bD : b ≠ D := fun z => by rw [z, hD0] at e; cases e
        rw [upd_ne bD]; exact s3 _ _ e
      · rw [upd_same, List.take_succ, hil, List.map_append]
        unfold intsV
        rw [List.map_append]
        show _ = some (HO.lst (_ ++ [V.int (wd ws j)]))
        rw [wd_at hy]; rfl
    rintro H3 ⟨s3, h3'⟩
    rw [natsV_len, List.take_length] at h3'
    refine ⟨D, _, rfl, SqL.of h3', fun t2 t20 => ?_⟩
    have s4 := s3.trans (same_new (o := .tup (intsV (is.map (wd ws)))) t20)
    refine ⟨p1, t2, _, _, rfl, rfl, SqT.of (s4 _ _ hp1), SqT.of upd_same, (by intro z; cases z), by rw [intsV_len, List.length_map]; show 1 + _ ≤ _; omega, fun z => ?_, fun _ q q0 => ?_⟩
    · exfalso
      have := congrArg List.length z
      rw [intsV_len, List.length_map] at this
      exact i0 (List.length_eq_zero_iff.mp this)
    have s5 := (s2.trans s4).trans (same_new (o := .tup ([V.str l.nm] ++ intsV (is.map (wd ws)))) q0)
    refine k _ q s5 ((s2.trans s4).free q0) ?_
    show upd _ q _ q = _
    rw [upd_same, hv]; rfl
end
end My

/-! JD -/
namespace My
open PySem L2
local macro_rules | `(tactic| walk_at "side") => `(tactic| first | with_reducible rfl | assumption | rfl | decide | omega | exact cpow1 (by omega) (by omega) | exact cdiv (by omega) (by omega) | exact two_pos _ | exact SqL.of (by assumption) | exact SqT.of (by assumption) | exact TyX.base (TyOf.int _) | exact TyX.base (TyOf.bl _) | exact TyX.base TyOf.non | exact scal_opt _ _ | exact k_ii | exact k_bi | exact k_ni | exact k_ib | exact k_bb | exact TyX.base (TyOf.lst (by assumption)) | exact k_ll | exact k_lt)
local macro_rules | `(tactic| walk_at "p") => `(tactic| repeat (first | refine And.intro (by walk_at "side") ?_ | apply Exists.intro | refine iteN (by assumption) ?_ | refine iteP (by assumption) ?_ | refine iteN (by decide) ?_ | refine iteP (by decide) ?_))

theorem getElem_lt {α : Type} (xs : List α) {i : Nat} (h : i < xs.length) : ∃ x, xs[i]? = some x := ⟨_, List.getElem?_eq_getElem h⟩
theorem regAt_eq {E : RE} {a : Rg} {x : Int} (h : E.regs[(rgN E.lv a).toNat]? = some x) : regAt E a = x := by unfold regAt; rw [h]; rfl
theorem look_doing_no (u : Addr) (k : Nat) (dl : Addr) (pl af : Int) (rt wl : Addr) {m : Str} (h1 : ¬ m = "form") (h2 : ¬ m = "word") (h3 : ¬ m = "letters") (h4 : ¬ m = "place") (h5 : ¬ m = "after") (h6 : ¬ m = "regs") (h7 : ¬ m = "words") : (doingF u k dl pl af rt wl).lookup m = none := by
  unfold doingF; rw [lk, if_neg h1, lk, if_neg h2, lk, if_neg h3, lk, if_neg h4, lk, if_neg h5, lk, if_neg h6, lk, if_neg h7]; rfl
theorem look_doing_told (u : Addr) (k : Nat) (dl : Addr) (pl af : Int) (rt wl : Addr) : (doingF u k dl pl af rt wl).lookup ("told" : Str) = none := look_doing_no _ _ _ _ _ _ _ (by decide +kernel) (by decide +kernel) (by decide +kernel) (by decide +kernel) (by decide +kernel) (by decide +kernel) (by decide +kernel)
section
variable {P : Program} {w : World} {K : PySem.W.Frag} {mg : Str → Option Value} {base : Heap}
def sp_Doing_value (T : Txt w K mg) : Sp := fun vs H Q _ => ∃ (p u wl : Addr) (f : FM) (E : RE) (L N : List Nat) (ws : WS) (l : Ln) (n r : Nat), vs = [.ref p, .ref u] ∧ DoAt T.C_Doing T.C_Form H p wl f E L ws ∧ LnAt H u l ∧ l.isA = false ∧ l.isV = true ∧ LnOk n r L N l ∧ (∀ i ∈ N, ∃ x, ws[i]? = some (some x)) ∧ RegOk r L E ∧ E.k ≤ 12 ∧
  Q (.int (valN E ws l)) H
theorem sp_Doing_value_len {T : Txt w K mg} {vs H Q E} (h : sp_Doing_value T vs H Q E) : vs.length = 2 := by obtain ⟨_, _, _, _, _, _, _, _, _, _, _, rfl, _⟩ := h; rfl
theorem ok_Doing_value (T : Txt w K mg) : FnOk P w K mg base CX0 2 T.f_Doing_value T.fd_Doing_value ["self", "line"] (sp_Doing_value T) := by
  have G_Doing_told := ok_Doing_told (P := P) (w := w) (base := base) T; have G_op_word := ok_op_word (P := P) (w := w) (base := base) T
  refine T.F_Doing_value.ok sc_Doing_value (fun vs H Q E h => sp_Doing_value_len h) (fun cdv A outer s H vs Q E hr h => ?_)
  obtain ⟨p, u, wl, f, E', L, N, ws, l, n, r, rfl, hD, hu, hA, hV, hok, hN, hreg, k12, k⟩ := h
  obtain ⟨⟨dx, fu, dl, rt, kvs, h1, h2, h3, h4, h5⟩, h6⟩ := id hD
  refine ⟨_, (pss_cons (ps_set (i := 2) sc_Doing_value.nd rfl (Or.inl rfl) (pe_ix ix_tup (pv 1) pe_int (fun _ _ => rfl)))
       (pss_cons (ps_if (pt_cmpR op_eq (pv 2) pe_str (nomark _))
        (pss_one (ps_ret (pe_ix ix_tup (pe_fldA (pv 0)) (pe_meth (pv 0) T.cl_Doing T.m_Doing_told G_Doing_told hr T.b_Doing_told .nil pass0 (pa_cons (pe_ix ix_tup (pv 1) pe_int (fun _ _ => rfl)) pa_nil)) (fun _ _ => rfl))))
        pss_nil)
       (pss_cons (ps_if (pt_cmpR op_eq (pv 2) pe_str (nomark _))
        (pss_one (ps_ret (pe_meth (pv 0) T.cl_Doing T.m_Doing_told G_Doing_told hr T.b_Doing_told .nil pass0 (pa_cons (pe_ix ix_tup (pv 1) pe_int (fun _ _ => rfl)) pa_nil))))
        pss_nil)
       (pss_cons (ps_if (pt_cmpR op_eq (pv 2) pe_str (nomark _))
        (pss_one (ps_ret (pe_fldA (pv 0))))
        pss_nil)
       (pss_cons (ps_if (pt_cmpR op_eq (pv 2) pe_str (nomark _))
        (pss_one (ps_ret (pe_fldA (pv 0))))
        pss_nil)
       (pss_one (ps_ret (pe_call G_op_word hr rfl T.g_op_word T.F_op_word.kp T.b_op_word .nil pass0 (pa_cons (pv 2) (pa_cons (pe_ix ix_list (pe_fldA (pv 0)) (pe_ix ix_tup (pv 1) pe_int (fun _ _ => rfl)) (fun _ _ => rfl)) (pa_cons (pe_ix ix_list (pe_fldA (pv 0)) (pe_ix ix_tup (pv 1) pe_int (fun _ _ => rfl)) (fun _ _ => rfl)) (pa_cons (pe_fldA (pv 0)) pa_nil)))))))))))), ?_⟩
  refine ⟨_, rfl, u, _, _, _, rfl, rfl, SqT.of hu, ln_at0 l, ?_⟩
  refine ⟨_, rfl, rfl, _, rfl, ?_⟩
  rw [nm_dec "get" (· == 0) (by decide +kernel)]
  cases l with
  | get a =>
    refine iteP rfl ?_
    obtain ⟨b0, b1⟩ := hreg.1 a hok
    obtain ⟨x, hx⟩ := getElem_lt E'.regs (i := (rgN E'.lv a).toNat) (by omega)
    refine ⟨_, rfl, p, T.C_Doing, dx, _, _, rfl, h1, T.cl_Doing, T.nA_Doing_regs, look_doing_regs .., ?_⟩
    refine ⟨_, rfl, p, dx, _, rfl, h1, look_doing_told .., _, rfl, u, _, _, _, rfl, rfl, SqT.of hu, ln_at1 (l := .get a) rfl, p, wl, f, E', L, ws, a, rfl, hD, fun c e => ?_, ?_⟩
    · have := hok; rw [e] at this; exact this.1
    refine ⟨rt, _, _, _, rfl, rfl, SqT.of h5, atI_int b0 (intsV_at hx), ?_⟩
    have kk : Q (V.int (regAt E' a)) H := k
    rw [regAt_eq hx] at kk
    exact kk
  | num a =>
    refine iteN (by intro z; cases z) ?_
    refine ⟨_, rfl, rfl, _, rfl, ?_⟩
    rw [nm_dec "num" (· == 1) (by decide +kernel)]
    refine iteP rfl ?_
    refine ⟨_, rfl, p, dx, _, rfl, h1, look_doing_told .., _, rfl, u, _, _, _, rfl, rfl, SqT.of hu, ln_at1 (l := .num a) rfl, p, wl, f, E', L, ws, a, rfl, hD, fun c e => ?_, k⟩
    have := hok; rw [e] at this; exact this.1
  | here =>
    refine iteN (by intro z; cases z) ?_
    refine ⟨_, rfl, rfl, _, rfl, ?_⟩
    rw [nm_dec "num" (· == 1) (by decide +kernel)]
    refine iteN (by intro z; cases z) ?_
    refine ⟨_, rfl, rfl, _, rfl, ?_⟩
    rw [nm_dec "here" (· == 2) (by decide +kernel)]
    refine iteP rfl ?_
    exact ⟨_, rfl, p, T.C_Doing, dx, _, _, rfl, h1, T.cl_Doing, T.nA_Doing_place, look_doing_place .., k⟩
  | next =>
    refine iteN (by intro z; cases z) ?_
    refine ⟨_, rfl, rfl, _, rfl, ?_⟩
    rw [nm_dec "num" (· == 1) (by decide +kernel)]
    refine iteN (by intro z; cases z) ?_
    refine ⟨_, rfl, rfl, _, rfl, ?_⟩
    rw [nm_dec "here" (· == 2) (by decide +kernel)]
    refine iteN (by intro z; cases z) ?_
    refine ⟨_, rfl, rfl, _, rfl, ?_⟩
    rw [nm_dec "next" (· == 3) (by decide +kernel)]
    refine iteP rfl ?_
    exact ⟨_, rfl, p, T.C_Doing, dx, _, _, rfl, h1, T.cl_Doing, T.nA_Doing_after, look_doing_after .., k⟩
  | op o i j =>
    have ne : ∀ m, m < 4 → ((Ln.op o i j).kd == m) = false := fun m hm => by
      have : 4 ≤ (Ln.op o i j).kd := by cases o <;> exact Nat.le_of_ble_eq_true rfl
      exact beq_false_of_ne (by omega)
    dsimp only
    rw [ne 0 (by decide)]
    refine iteN (by decide) ?_
    refine ⟨_, rfl, rfl, _, rfl, ?_⟩
    rw [nm_dec "num" (· == 1) (by decide +kernel)]
    dsimp only
    rw [ne 1 (by decide)]
    refine iteN (by decide) ?_
    refine ⟨_, rfl, rfl, _, rfl, ?_⟩
    rw [nm_dec "here" (· == 2) (by decide +kernel)]
    dsimp only
    rw [ne 2 (by decide)]
    refine iteN (by decide) ?_
    refine ⟨_, rfl, rfl, _, rfl, ?_⟩
    rw [nm_dec "next" (· == 3) (by decide +kernel)]
    dsimp only
    rw [ne 3 (by decide)]
    refine iteN (by decide) ?_
    obtain ⟨x, hx⟩ := hN i hok.1
    obtain ⟨y, hy⟩ := hN j hok.2
    refine ⟨_, rfl, _, rfl, p, T.C_Doing, dx, _, _, rfl, h1, T.cl_Doing, T.nA_Doing_words, look_doing_words .., ?_⟩
    refine ⟨_, rfl, u, _, _, _, rfl, rfl, SqT.of hu, ln_at1 (l := .op o i j) rfl, wl, _, _, _, rfl, rfl, SqL.of h6, atI_nat (optsV_at hx), ?_⟩
    refine ⟨_, rfl, p, T.C_Doing, dx, _, _, rfl, h1, T.cl_Doing, T.nA_Doing_words, look_doing_words .., ?_⟩
    refine ⟨_, rfl, u, _, _, _, rfl, rfl, SqT.of hu, ln_at2 (l := .op o i j) rfl, wl, _, _, _, rfl, rfl, SqL.of h6, atI_nat (optsV_at hy), ?_⟩
    refine ⟨_, rfl, p, T.C_Doing, dx, _, _, rfl, h1, T.cl_Doing, T.nA_Doing_word, look_doing_word .., o, x, y, E'.k, rfl, k12, ?_⟩
    have kk : Q (V.int (opI E'.k o (wd ws i) (wd ws j))) H := k
    rw [wd_at hx, wd_at hy] at kk
    exact kk
  | read i => cases hA
  | inp i => cases hA
  | _ => cases hV
def sp_Doing_finished (T : Txt w K mg) : Sp := fun vs H Q _ => ∃ (p wl : Addr) (f : FM) (E : RE) (L N : List Nat) (ws : WS) (n r : Nat), vs = [.ref p] ∧ DoAt T.C_Doing T.C_Form H p wl f E L ws ∧ (∀ (i : Nat) (l : Ln), f.ls[i]? = some l → LnOk n r L N l) ∧ f.ls.length ≤ 12 ∧ (∀ i ∈ N, ∃ x, ws[i]? = some (some x)) ∧ RegOk r L E ∧
  ∀ H' t, Same H H' → H t = none → HandAt H' t (finN E ws f.ls) → Q (.ref t) H'
theorem sp_Doing_finished_len {T : Txt w K mg} {vs H Q E} (h : sp_Doing_finished T vs H Q E) : vs.length = 1 := by obtain ⟨_, _, _, _, _, _, _, _, _, rfl, _⟩ := h; rfl
theorem ok_Doing_finished (T : Txt w K mg) : FnOk P w K mg base CX0 2 T.f_Doing_finished T.fd_Doing_finished ["self"] (sp_Doing_finished T) := by
  have G_Doing_told := ok_Doing_told (P := P) (w := w) (base := base) T
  refine T.F_Doing_finished.ok sc_Doing_finished (fun vs H Q E h => sp_Doing_finished_len h) (fun cdv A outer s H vs Q E hr h => ?_)
  obtain ⟨p, wl, f, E', L, N, ws, n, r, rfl, hD, hok, l12, hN, hreg, k⟩ := h
  obtain ⟨⟨dx, fu, dl, rt, kvs, h1, h2, h3, h4, h5⟩, h6⟩ := id hD
  obtain ⟨fdx, fpt, fln, flt, ffx, hfo, hfpt, ⟨lus, hfln, hfR⟩, hflt, hffx⟩ := id h2
  have sz : sizeLine = 16777216 := sizeLine_eq
  have lul := hfR.1
  refine ⟨_, (pss_cons (ps_set (i := 1) sc_Doing_finished.nd rfl (Or.inl rfl) (pe_fldA (pv 0)))
       (pss_cons (ps_set (i := 2) sc_Doing_finished.nd rfl (Or.inl rfl) (pe_callTy call_listT (by rfl) T.n_list (by decide +kernel) (pa_cons (pe_fldA (pv 0)) pa_nil)))
       (pss_cons (ps_for PassesOwn.never rfl (pi_tup (pe_fldA (pe_fldA (pv 0)))) (pg_name (i := 3) sc_Doing_finished.nd rfl (Or.inl rfl))
        (pss_one (ps_if (pt_cmpR op_eq (pe_ix ix_tup (pv 3) pe_int (fun _ _ => rfl)) pe_str (nomark _))
        (pss_one (ps_asg (pe_ix ix_list (pe_fldA (pv 0)) (pe_ix ix_tup (pv 3) pe_int (fun _ _ => rfl)) (fun _ _ => rfl)) (pg_sub (pv 2) (pe_meth (pv 0) T.cl_Doing T.m_Doing_told G_Doing_told hr T.b_Doing_told .nil pass0 (pa_cons (pe_ix ix_tup (pv 3) pe_int (fun _ _ => rfl)) pa_nil)) set_list)))
        (pss_one (ps_if (pt_cmpR op_eq (pe_ix ix_tup (pv 3) pe_int (fun _ _ => rfl)) pe_str (nomark _))
        (pss_one (ps_set (i := 1) sc_Doing_finished.nd rfl (Or.inl rfl) (pe_ix ix_list (pe_fldA (pv 0)) (pe_ix ix_tup (pv 3) pe_int (fun _ _ => rfl)) (fun _ _ => rfl))))
        pss_nil)))))
       (pss_one (ps_ret (pe_tup (pa_cons pe_non (pa_cons pe_int (pa_cons (pv 1) (pa_cons (pe_callTy call_tupleL (by rfl) T.n_tuple (by decide +kernel) (pa_cons (pv 2) pa_nil)) pa_nil)))))))))), ?_⟩
  refine ⟨_, rfl, p, T.C_Doing, dx, _, _, rfl, h1, T.cl_Doing, T.nA_Doing_after, look_doing_after .., ?_⟩
  refine ⟨_, rfl, p, T.C_Doing, dx, _, _, rfl, h1, T.cl_Doing, T.nA_Doing_regs, look_doing_regs .., rt, _, rfl, SqT.of h5, fun rl rl0 => ?_⟩
  have s1 := same_new (o := .lst (intsV E'.regs)) rl0
  refine ⟨_, rfl, p, T.C_Doing, dx, _, _, rfl, s1 _ _ h1, T.cl_Doing, T.nA_Doing_form, look_doing_form .., fu, T.C_Form, fdx, _, _, rfl, s1 _ _ hfo, T.cl_Form, T.nA_Form_lines, look_form_lines .., fln, rfl, ⟨_, SqT.of (s1 _ _ hfln)⟩, ?_⟩
  refine for_it (walk_tup (xs := lus)) (fun i σ H3 => Same H H3 ∧ H3 rl = some (.lst (intsV (putR E'.lv ws (f.ls.take i) E'.regs))) ∧ ∃ v3 : Option V, σ = [some (.ref p), some (.int (goP ws (f.ls.take i) E'.after)), some (.ref rl), v3]) ⟨s1, upd_same, none, rfl⟩ (fun i σ H3 _ ⟨s3, _⟩ => SqT.of (s3 _ _ hfln)) ?_ ?_
  · rintro i x σ H3 H4 hi ⟨s3, hrl, v3, rfl⟩ ⟨rfl, hx⟩
    obtain ⟨u, l, hl, hu, hr⟩ := hfR.at (i := i) (by omega)
    have hux := hu.symm.trans hx
    cases hux
    have hr3 := s3 _ _ hr
    have etk : f.ls.take (i + 1) = f.ls.take i ++ [l] := by rw [List.take_succ, hl]; rfl
    have hlo := hok i l hl
    have eP := putR_snoc E'.lv ws l (f.ls.take i) E'.regs
    have eG := goP_snoc ws l (f.ls.take i) E'.after
    rw [← etk] at eP eG
    have hD3 := hD.news s3
    have hwl3 := s3 _ _ h6
    refine ⟨_, rfl, u, _, _, _, rfl, rfl, SqT.of hr3, ln_at0 l, rfl, _, rfl, ?_⟩
    rw [nm_dec "put" (· == 16) (by decide +kernel)]
    have no : (l.kd == 16) = false → putR E'.lv ws [l] (putR E'.lv ws (f.ls.take i) E'.regs) = putR E'.lv ws (f.ls.take i) E'.regs := fun h => by
      cases l with
      | put a j => cases h
      | _ => rfl
    have no2 : (l.kd == 17) = false → goP ws [l] (goP ws (f.ls.take i) E'.after) = goP ws (f.ls.take i) E'.after := fun h => by
      cases l with
      | goto j => cases h
      | _ => rfl
    refine iteB (fun c => ?_) fun c => ?_
    · obtain ⟨a, j, rfl⟩ : ∃ a j, l = .put a j := by
        cases l with
        | put a j => exact ⟨a, j, rfl⟩
        | op o _ _ => cases o <;> cases c
        | _ => cases c
      obtain ⟨b0, b1⟩ := hreg.1 a hlo.1
      obtain ⟨x, hx'⟩ := hN j hlo.2
      refine ⟨_, rfl, p, T.C_Doing, dx, _, _, rfl, s3 _ _ h1, T.cl_Doing, T.nA_Doing_words, look_doing_words .., ?_⟩
      refine ⟨_, rfl, u, _, _, _, rfl, rfl, SqT.of hr3, ln_at2 (l := .put a j) rfl, wl, _, _, _, rfl, rfl, SqL.of hwl3, atI_nat (optsV_at hx'), ?_⟩
      refine ⟨_, rfl, _, rfl, p, dx, _, rfl, s3 _ _ h1, look_doing_told .., _, rfl, u, _, _, _, rfl, rfl, SqT.of hr3, ln_at1 (l := .put a j) rfl, p, wl, f, E', L, ws, a, rfl, hD3, fun c e => ?_, ?_⟩
      · have := hlo.1; rw [e] at this; exact this.1
      refine ⟨rl, _, _, _, rfl, rfl, hrl, ixN_ok b0 (by rw [intsV_len, putR_len]; exact b1), ?_⟩
      refine ⟨fun b o e => ?_, ?_, some (V.ref u), ?_⟩
      · have : b ≠ rl := fun z => by rw [z, rl0] at e; cases e
        rw [upd_ne this]; exact s3 _ _ e
      · rw [upd_same, eP]
        show some (HO.lst ((intsV _).set _ (V.int x))) = some (HO.lst (intsV ((putR E'.lv ws (f.ls.take i) E'.regs).set (rgN E'.lv a).toNat (wd ws j))))
        rw [intsV_set, wd_at hx']
      · rw [eG]; rfl
    · rw [no c] at eP
      refine ⟨_, rfl, u, _, _, _, rfl, rfl, SqT.of hr3, ln_at0 l, rfl, _, rfl, ?_⟩
      rw [nm_dec "goto" (· == 17) (by decide +kernel)]
      refine iteB (fun c2 => ?_) fun c2 => ?_
      · obtain ⟨j, rfl⟩ : ∃ j, l = .goto j := by
          cases l with
          | goto j => exact ⟨j, rfl⟩
          | op o _ _ => cases o <;> cases c2
          | _ => cases c2
        obtain ⟨x, hx'⟩ := hN j hlo
        refine ⟨_, rfl, p, T.C_Doing, dx, _, _, rfl, s3 _ _ h1, T.cl_Doing, T.nA_Doing_words, look_doing_words .., ?_⟩
        refine ⟨_, rfl, u, _, _, _, rfl, rfl, SqT.of hr3, ln_at1 (l := .goto j) rfl, wl, _, _, _, rfl, rfl, SqL.of hwl3, atI_nat (optsV_at hx'), ?_⟩
        refine ⟨s3, by rw [eP]; exact hrl, some (V.ref u), ?_⟩
        rw [eG]
        show _ = [some (V.ref p), some (V.int (wd ws j)), some (V.ref rl), some (V.ref u)]
        rw [wd_at hx']; rfl
      · rw [no2 c2] at eG
        exact ⟨s3, by rw [eP]; exact hrl, some (V.ref u), by rw [eG]; rfl⟩
  · rintro σ H3 ⟨s3, hrl, v3, rfl⟩
    rw [List.take_of_length_le (by omega)] at hrl ⊢
    refine ⟨_, rfl, _, rfl, rl, _, rfl, SqL.of hrl, fun t t0 => ?_⟩
    have s4 := s3.trans (same_new (o := .tup (intsV (putR E'.lv ws f.ls E'.regs))) t0)
    refine ⟨by show 4 ≤ _; omega, fun q q0 => ?_⟩
    refine k _ q (s4.trans (same_new q0)) (s4.free q0) ⟨t, upd_same, same_new q0 _ _ upd_same⟩
end
end My

/-! JE -/
namespace My
open PySem L2
local macro_rules | `(tactic| walk_at "side") => `(tactic| first | with_reducible rfl | assumption | rfl | decide | omega | exact cpow1 (by omega) (by omega) | exact cdiv (by omega) (by omega) | exact two_pos _ | exact SqL.of (by assumption) | exact SqT.of (by assumption) | exact TyX.base (TyOf.int _) | exact TyX.base (TyOf.bl _) | exact TyX.base TyOf.non | exact scal_opt _ _ | exact k_ii | exact k_bi | exact k_ni | exact k_ib | exact k_bb | exact TyX.base (TyOf.lst (by assumption)) | exact k_ll | exact k_lt)
local macro_rules | `(tactic| walk_at "p") => `(tactic| repeat (first | refine And.intro (by walk_at "side") ?_ | apply Exists.intro | refine iteN (by assumption) ?_ | refine iteP (by assumption) ?_ | refine iteN (by decide) ?_ | refine iteP (by decide) ?_))

theorem FormAt.np {C : Addr} {H H' : Hp} {u p : Addr} {f : FM} (h : FormAt C H u f) {D dx : Addr} {fs : List (Str × V)} (hp : H p = some (.ins D dx fs)) (hl : fs.length ≠ 8) (s : ∀ b o, H b = some o → b ≠ p → H' b = some o) : FormAt C H' u f := by
  have st : ∀ b xs, H b = some (.tup xs) → H' b = some (.tup xs) := fun b xs e => s b _ e fun z => by rw [z, hp] at e; cases e
  obtain ⟨dx, pt, ln, lt, fx, h⟩ := h
  obtain ⟨ls, l1, l2⟩ := h.lt
  obtain ⟨ms, m1, m2⟩ := h.ln
  obtain ⟨xs, x1, x2⟩ := h.fx
  refine ⟨dx, pt, ln, lt, fx, s _ _ h.o fun z => ?_, st _ _ h.pt, ⟨ms, st _ _ m1, m2.map fun _ _ _ r => st _ _ r⟩, ⟨ls, st _ _ l1, l2.map fun _ _ _ r => st _ _ r⟩, ⟨xs, st _ _ x1, x2.map fun _ _ _ r => st _ _ r⟩⟩
  have := h.o
  rw [z, hp] at this
  cases this
  exact hl rfl
theorem book_named (w r : Nat) (ft nd : Addr) (tx : Str) : (bookF w r ft nd tx).lookup ("form_named" : Str) = none := by unfold bookF; rw [lk, if_neg (by decide +kernel), lk, if_neg (by decide +kernel), lk, if_neg (by decide +kernel), lk, if_neg (by decide +kernel), lk, if_neg (by decide +kernel)]; rfl
/-- the run of a form's instruction -/
def reOf (n : Nat) (f : FM) (ns : List Int) (place : Int) (regs : List Int) : RE := ⟨n, lvOf (lettersM (pls f.ps)) ns, place, (place + (f.ps.length : Nat)) % 2 ^ n, regs⟩
section
variable {P : Program} {w : World} {K : PySem.W.Frag} {mg : Str → Option Value} {base : Heap}
/-- an instruction of a book, here -/
structure InsAt (T : Txt w K mg) (H : Hp) (b q nq : Addr) (F : List FM) (n r : Nat) (f : FM) (ns : List Int) : Prop where
  bk : BookAt T.C_Book T.C_Form H b n r F
  nm : NamedAt T.C_Book H b F
  fi : ∃ i : Nat, F[i]? = some f
  q : H q = some (.tup [.str f.nm, .ref nq])
  nq : Row H nq (intsV ns)
  len : ns.length = (lettersM (pls f.ps)).length
theorem InsAt.news {T : Txt w K mg} {H H' : Hp} {b q nq : Addr} {F : List FM} {n r : Nat} {f : FM} {ns : List Int} (h : InsAt T H b q nq F n r f ns) (s : Same H H') : InsAt T H' b q nq F n r f ns :=
  ⟨h.bk.news s, h.nm.news s, h.fi, s _ _ h.q, h.nq.news s, h.len⟩
def sp_Doing_init (T : Txt w K mg) : Sp := fun vs H Q _ => ∃ (p dx b q nq rt : Addr) (F : List FM) (n r : Nat) (f : FM) (ns regs : List Int) (place : Int), vs = [.ref p, .ref b, .ref q, .int place, .ref rt] ∧ H p = some (.ins T.C_Doing dx []) ∧ InsAt T H b q nq F n r f ns ∧ n ≤ 12 ∧ H rt = some (.tup (intsV regs)) ∧
  ∀ H' wl, (∀ b o, H b = some o → b ≠ p → H' b = some o) → H wl = none → DoAt T.C_Doing T.C_Form H' p wl f (reOf n f ns place regs) ((lettersM (pls f.ps)).map Prod.fst) [] → Q .non H'
theorem sp_Doing_init_len {T : Txt w K mg} {vs H Q E} (h : sp_Doing_init T vs H Q E) : vs.length = 5 := by obtain ⟨_, _, _, _, _, _, _, _, _, _, _, _, _, rfl, _⟩ := h; rfl
theorem ok_Doing_init (T : Txt w K mg) : FnOk P w K mg base CX0 4 T.f_Doing_init T.fd_Doing_init ["self", "book", "instruction", "place", "regs"] (sp_Doing_init T) := by
  have G_Book_form_named := ok_Book_form_named (P := P) (w := w) (base := base) T; have G_letters_told := ok_letters_told (P := P) (w := w) (base := base) T; have G_ones := ok_ones (P := P) (w := w) (base := base) T
  refine T.F_Doing_init.ok sc_Doing_init (fun vs H Q E h => sp_Doing_init_len h) (fun cdv A outer s H vs Q E hr h => ?_)
  obtain ⟨p, dx, b, q, nq, rt, F, n, r, f, ns, regs, place, rfl, hp, hI, n12, hrt, k⟩ := h
  obtain ⟨hB, hN, ⟨i, hf⟩, hq, hnq, hl⟩ := id hI
  obtain ⟨bdx, ft, nd, tx, hO, hF⟩ := id hB
  have sz : sizeLine = 16777216 := sizeLine_eq
  refine ⟨_, (pss_cons (ps_asg (pv 2) (pg_tup (n := 2) rfl (pgs_cons (pg_name (i := 5) sc_Doing_init.nd rfl (Or.inl rfl)) (pgs_cons (pg_name (i := 6) sc_Doing_init.nd rfl (Or.inl rfl)) pgs_nil))))
       (pss_cons (ps_fld (pv 0) (pe_meth (pv 1) T.cl_Book T.m_Book_form_named G_Book_form_named hr T.b_Book_form_named .nil passL (pa_cons (pv 5) pa_nil)) rfl)
       (pss_cons (ps_fld (pv 0) (pe_fldA (pv 1)) rfl)
       (pss_cons (ps_fld (pv 0) (pe_call G_letters_told (hr.mono (by decide)) rfl T.g_letters_told T.F_letters_told.kp T.b_letters_told .nil pass0 (pa_cons (pe_fldA (pv 0)) (pa_cons (pv 6) pa_nil))) rfl)
       (pss_cons (ps_fld (pv 0) (pv 3) rfl)
       (pss_cons (ps_fld (pv 0) (pe_op op_and (pe_op op_add (pv 3) (pe_fldA (pe_fldA (pv 0)))) (pe_call G_ones hr rfl T.g_ones T.F_ones.kp T.b_ones .nil pass0 (pa_cons (pe_fldA (pv 1)) pa_nil))) rfl)
       (pss_cons (ps_fld (pv 0) (pv 4) rfl)
       (pss_one (ps_fld (pv 0) (pe_lst pa_nil) rfl))))))))), ?_⟩
  refine ⟨_, rfl, q, _, rfl, SqT.of hq, rfl, _, _, rfl, _, _, rfl, rfl, ?_⟩
  refine ⟨_, rfl, b, bdx, _, rfl, hO, book_named .., _, rfl, b, .str f.nm, F, n, r, rfl, hB, hN, .inl ⟨i, f, hf, rfl, fun u hU => ?_⟩⟩
  refine ⟨_, rfl, p, T.C_Doing, dx, _, rfl, hp, T.cl_Doing, T.nA_Doing_form, by decide, ?_⟩
  rw [put_doing_0]
  have bp : b ≠ p := fun z => by
    rw [z, hp] at hO
    have e := (HO.ins.inj (Option.some.inj hO)).2.2
    unfold bookF at e
    cases e
  have kp1 : ∀ c o, H c = some o → c ≠ p → upd H p (.ins T.C_Doing dx [("form", .ref u)]) c = some o := fun c o e hc => by rw [upd_ne hc]; exact e
  have hp1 : upd H p (.ins T.C_Doing dx [("form", .ref u)]) p = some (.ins T.C_Doing dx [("form", .ref u)]) := upd_same
  have U1 := hU.np hp (by show 0 ≠ 8; decide) kp1
  have fr1 : ∀ c, upd H p (.ins T.C_Doing dx [("form", .ref u)]) c = none → H c = none := fun c e => by
    by_cases hc : c = p
    · rw [hc, hp1] at e; cases e
    · rw [upd_ne hc] at e; exact e
  generalize upd H p (.ins T.C_Doing dx [("form", .ref u)]) = H1 at kp1 hp1 U1 fr1 ⊢
  refine ⟨_, rfl, b, T.C_Book, bdx, _, _, rfl, kp1 _ _ hO bp, T.cl_Book, T.nA_Book_word, look_book_word .., _, rfl, p, T.C_Doing, dx, _, rfl, hp1, T.cl_Doing, T.nA_Doing_word, by show 1 < 1000; decide, ?_⟩
  rw [put_doing_1]
  have kp2 : ∀ c o, H c = some o → c ≠ p → upd H1 p (.ins T.C_Doing dx [("form", .ref u), ("word", .int (n : Nat))]) c = some o := fun c o e hc => by rw [upd_ne hc]; exact kp1 _ _ e hc
  have hp2 : upd H1 p (.ins T.C_Doing dx [("form", .ref u), ("word", .int (n : Nat))]) p = some (.ins T.C_Doing dx [("form", .ref u), ("word", .int (n : Nat))]) := upd_same
  have U2 := U1.np hp1 (by show 1 ≠ 8; decide) (H' := upd H1 p (.ins T.C_Doing dx [("form", .ref u), ("word", .int (n : Nat))])) fun c o e hc => by rw [upd_ne hc]; exact e
  have fr2 : ∀ c, upd H1 p (.ins T.C_Doing dx [("form", .ref u), ("word", .int (n : Nat))]) c = none → H c = none := fun c e => by
    by_cases hc : c = p
    · rw [hc, hp2] at e; cases e
    · rw [upd_ne hc] at e; exact fr1 _ e
  generalize upd H1 p (.ins T.C_Doing dx [("form", .ref u), ("word", .int (n : Nat))]) = H2 at kp2 hp2 U2 fr2 ⊢
  have hnq2 : Row H2 nq (intsV ns) := hnq.elim (fun e => .inl (kp2 _ _ e fun z => by rw [z, hp] at e; cases e)) fun e => .inr (kp2 _ _ e fun z => by rw [z, hp] at e; cases e)
  refine ⟨_, rfl, p, T.C_Doing, dx, _, _, rfl, hp2, T.cl_Doing, T.nA_Doing_form, by rw [lk, if_pos rfl], ?_⟩
  refine ⟨_, rfl, u, nq, f, ns, rfl, U2, hnq2, hl, fun H3 dl s3 dl0 hdl => ?_⟩
  have hp3 := s3 _ _ hp2
  refine ⟨_, rfl, p, T.C_Doing, dx, _, rfl, hp3, T.cl_Doing, T.nA_Doing_letters, by show 2 < 1000; decide, ?_⟩
  rw [put_doing_2]
  have pdl : dl ≠ p := fun z => by rw [z, hp2] at dl0; cases dl0
  -- the place
  have np : ∀ (H0 : Hp) (fs gs : List (Str × V)) (c : Addr) (o : HO), H0 p = some (.ins T.C_Doing dx fs) → H0 c = some o → c ≠ p → upd H0 p (.ins T.C_Doing dx gs) c = some o := fun H0 fs gs c o _ e hc => by rw [upd_ne hc]; exact e
  have U3 := (U2.news s3).np hp3 (by show 2 ≠ 8; decide) (H' := upd H3 p (.ins T.C_Doing dx [("form", .ref u), ("word", .int (n : Nat)), ("letters", .ref dl)])) fun c o e hc => by rw [upd_ne hc]; exact e
  have kp3 : ∀ c o, H c = some o → c ≠ p → upd H3 p (.ins T.C_Doing dx [("form", .ref u), ("word", .int (n : Nat)), ("letters", .ref dl)]) c = some o := fun c o e hc => by rw [upd_ne hc]; exact s3 _ _ (kp2 _ _ e hc)
  have hp4 : upd H3 p (.ins T.C_Doing dx [("form", .ref u), ("word", .int (n : Nat)), ("letters", .ref dl)]) p = some (.ins T.C_Doing dx [("form", .ref u), ("word", .int (n : Nat)), ("letters", .ref dl)]) := upd_same
  have hdl3 : upd H3 p (.ins T.C_Doing dx [("form", .ref u), ("word", .int (n : Nat)), ("letters", .ref dl)]) dl = some (.dK (lkv (lettersM (pls f.ps)) ns)) := by rw [upd_ne pdl]; exact hdl
  generalize upd H3 p (.ins T.C_Doing dx [("form", .ref u), ("word", .int (n : Nat)), ("letters", .ref dl)]) = H4 at U3 kp3 hp4 hdl3 ⊢
  refine ⟨_, rfl, _, rfl, p, T.C_Doing, dx, _, rfl, hp4, T.cl_Doing, T.nA_Doing_place, by show 3 < 1000; decide, ?_⟩
  rw [put_doing_3]
  have U5 := U3.np hp4 (by show 3 ≠ 8; decide) (H' := upd H4 p (.ins T.C_Doing dx [("form", .ref u), ("word", .int (n : Nat)), ("letters", .ref dl), ("place", .int place)])) fun c o e hc => by rw [upd_ne hc]; exact e
  have kp5 : ∀ c o, H c = some o → c ≠ p → upd H4 p (.ins T.C_Doing dx [("form", .ref u), ("word", .int (n : Nat)), ("letters", .ref dl), ("place", .int place)]) c = some o := fun c o e hc => by rw [upd_ne hc]; exact kp3 _ _ e hc
  have hp5 : upd H4 p (.ins T.C_Doing dx [("form", .ref u), ("word", .int (n : Nat)), ("letters", .ref dl), ("place", .int place)]) p = some (.ins T.C_Doing dx [("form", .ref u), ("word", .int (n : Nat)), ("letters", .ref dl), ("place", .int place)]) := upd_same
  have hdl5 : upd H4 p (.ins T.C_Doing dx [("form", .ref u), ("word", .int (n : Nat)), ("letters", .ref dl), ("place", .int place)]) dl = some (.dK (lkv (lettersM (pls f.ps)) ns)) := by rw [upd_ne pdl]; exact hdl3
  generalize upd H4 p (.ins T.C_Doing dx [("form", .ref u), ("word", .int (n : Nat)), ("letters", .ref dl), ("place", .int place)]) = H5 at U5 kp5 hp5 hdl5 ⊢
  obtain ⟨fdx, fpt, fln, flt, ffx, hfo, _⟩ := id U5
  refine ⟨_, rfl, _, rfl, p, T.C_Doing, dx, _, _, rfl, hp5, T.cl_Doing, T.nA_Doing_form, by rw [lk, if_pos rfl], u, T.C_Form, fdx, _, _, rfl, hfo, T.cl_Form, T.nA_Form_size, look_form_size .., _, _, rfl, rfl, ?_⟩
  refine ⟨_, rfl, b, T.C_Book, bdx, _, _, rfl, kp5 _ _ hO bp, T.cl_Book, T.nA_Book_word, look_book_word .., n, rfl, n12, _, _, rfl, rfl, ?_⟩
  have em : Builtin.bitAnd (place + (f.ps.length : Nat)) (2 ^ n - 1) = (place + (f.ps.length : Nat)) % 2 ^ n := PySem.W.kbt_mask _ n
  dsimp only
  rw [em]
  refine ⟨_, rfl, p, T.C_Doing, dx, _, rfl, hp5, T.cl_Doing, T.nA_Doing_after, by show 4 < 1000; decide, ?_⟩
  rw [put_doing_4]
  generalize haf : (place + (f.ps.length : Nat)) % 2 ^ n = af
  have U6 := U5.np hp5 (by show 4 ≠ 8; decide) (H' := upd H5 p (.ins T.C_Doing dx [("form", .ref u), ("word", .int (n : Nat)), ("letters", .ref dl), ("place", .int place), ("after", .int af)])) fun c o e hc => by rw [upd_ne hc]; exact e
  have kp6 : ∀ c o, H c = some o → c ≠ p → upd H5 p (.ins T.C_Doing dx [("form", .ref u), ("word", .int (n : Nat)), ("letters", .ref dl), ("place", .int place), ("after", .int af)]) c = some o := fun c o e hc => by rw [upd_ne hc]; exact kp5 _ _ e hc
  have hp6 : upd H5 p (.ins T.C_Doing dx [("form", .ref u), ("word", .int (n : Nat)), ("letters", .ref dl), ("place", .int place), ("after", .int af)]) p = some (.ins T.C_Doing dx [("form", .ref u), ("word", .int (n : Nat)), ("letters", .ref dl), ("place", .int place), ("after", .int af)]) := upd_same
  have hdl6 : upd H5 p (.ins T.C_Doing dx [("form", .ref u), ("word", .int (n : Nat)), ("letters", .ref dl), ("place", .int place), ("after", .int af)]) dl = some (.dK (lkv (lettersM (pls f.ps)) ns)) := by rw [upd_ne pdl]; exact hdl5
  generalize upd H5 p (.ins T.C_Doing dx [("form", .ref u), ("word", .int (n : Nat)), ("letters", .ref dl), ("place", .int place), ("after", .int af)]) = H6 at U6 kp6 hp6 hdl6 ⊢
  refine ⟨_, rfl, _, rfl, p, T.C_Doing, dx, _, rfl, hp6, T.cl_Doing, T.nA_Doing_regs, by show 5 < 1000; decide, ?_⟩
  rw [put_doing_5]
  have U7 := U6.np hp6 (by show 5 ≠ 8; decide) (H' := upd H6 p (.ins T.C_Doing dx [("form", .ref u), ("word", .int (n : Nat)), ("letters", .ref dl), ("place", .int place), ("after", .int af), ("regs", .ref rt)])) fun c o e hc => by rw [upd_ne hc]; exact e
  have kp7 : ∀ c o, H c = some o → c ≠ p → upd H6 p (.ins T.C_Doing dx [("form", .ref u), ("word", .int (n : Nat)), ("letters", .ref dl), ("place", .int place), ("after", .int af), ("regs", .ref rt)]) c = some o := fun c o e hc => by rw [upd_ne hc]; exact kp6 _ _ e hc
  have hp7 : upd H6 p (.ins T.C_Doing dx [("form", .ref u), ("word", .int (n : Nat)), ("letters", .ref dl), ("place", .int place), ("after", .int af), ("regs", .ref rt)]) p = some (.ins T.C_Doing dx [("form", .ref u), ("word", .int (n : Nat)), ("letters", .ref dl), ("place", .int place), ("after", .int af), ("regs", .ref rt)]) := upd_same
  have hdl7 : upd H6 p (.ins T.C_Doing dx [("form", .ref u), ("word", .int (n : Nat)), ("letters", .ref dl), ("place", .int place), ("after", .int af), ("regs", .ref rt)]) dl = some (.dK (lkv (lettersM (pls f.ps)) ns)) := by rw [upd_ne pdl]; exact hdl6
  generalize upd H6 p (.ins T.C_Doing dx [("form", .ref u), ("word", .int (n : Nat)), ("letters", .ref dl), ("place", .int place), ("after", .int af), ("regs", .ref rt)]) = H7 at U7 kp7 hp7 hdl7 ⊢
  refine ⟨Nat.zero_le _, fun wl wl0 => ?_⟩
  have s8 := same_new (o := .lst []) wl0
  have pwl : wl ≠ p := fun z => by rw [z, hp7] at wl0; cases wl0
  refine ⟨_, rfl, p, T.C_Doing, dx, _, rfl, s8 _ _ hp7, T.cl_Doing, T.nA_Doing_words, by show 6 < 1000; decide, ?_⟩
  rw [put_doing_6]
  have wlN : H wl = none := by
    cases e : H wl with
    | none => rfl
    | some o => rw [kp7 _ _ e pwl] at wl0; cases wl0
  have rtp : rt ≠ p := fun z => by rw [z, hp] at hrt; cases hrt
  refine k _ wl (fun c o e hc => by rw [upd_ne hc]; exact s8 _ _ (kp7 _ _ e hc)) wlN ⟨⟨dx, u, dl, rt, _, ?_, ?_, ?_, fun c hc => lkv_val hc hl, ?_⟩, ?_⟩
  · rw [upd_same]
    unfold reOf doingF
    rw [haf]
  · exact (U7.news s8).np (s8 _ _ hp7) (by show 6 ≠ 8; decide) fun c o e hc => by rw [upd_ne hc]; exact e
  · rw [upd_ne pdl]; exact s8 _ _ hdl7
  · rw [upd_ne rtp]; exact s8 _ _ (kp7 _ _ hrt rtp)
  · rw [upd_ne pwl]; exact upd_same
end
end My

/-! JF -/
namespace My
open PySem L2
local macro_rules | `(tactic| walk_at "side") => `(tactic| first | with_reducible rfl | assumption | rfl | decide | omega | exact cpow1 (by omega) (by omega) | exact cdiv (by omega) (by omega) | exact two_pos _ | exact SqL.of (by assumption) | exact SqT.of (by assumption) | exact TyX.base (TyOf.int _) | exact TyX.base (TyOf.bl _) | exact TyX.base TyOf.non | exact scal_opt _ _ | exact k_ii | exact k_bi | exact k_ni | exact k_ib | exact k_bb | exact TyX.base (TyOf.lst (by assumption)) | exact k_ll | exact k_lt)
local macro_rules | `(tactic| walk_at "p") => `(tactic| repeat (first | refine And.intro (by walk_at "side") ?_ | apply Exists.intro | refine iteN (by assumption) ?_ | refine iteP (by assumption) ?_ | refine iteN (by decide) ?_ | refine iteP (by decide) ?_))

theorem nm_ask (l : Ln) : decide (l.nm ∈ (["read", "write", "in", "out"] : List Str)) = l.isA := by
  have h := nm_all (P := fun z k => decide (z ∈ (["read", "write", "in", "out"] : List Str)) == (k == 11 || k == 12 || k == 14 || k == 15)) (by decide +kernel) l
  rw [eq_of_beq h]
  cases l with
  | op o i j => cases o <;> rfl
  | _ => rfl
theorem nm_pg (l : Ln) : decide (l.nm ∈ (["put", "goto"] : List Str)) = (l.kd == 16 || l.kd == 17) :=
  eq_of_beq (nm_all (P := fun z k => decide (z ∈ (["put", "goto"] : List Str)) == (k == 16 || k == 17)) (by decide +kernel) l)
def refT : List (Str × V) := [("read", .int 10), ("write", .int 11)]
def refK (k : Nat) : V := if k = 11 then .int 10 else if k = 14 then .int 11 else .non
theorem ref_nm (l : Ln) (h : l.isA = true) : (refT.lookup l.nm).getD .non = causeV l := by
  have h2 := of_decide_eq_true (nm_all (P := fun z k => decide ((refT.lookup z).getD .non = refK k)) (by decide +kernel) l)
  rw [h2]
  cases l with
  | op o i j => cases h
  | _ => first | rfl | cases h
theorem LnOk.mono {w r : Nat} {L N N' : List Nat} {l : Ln} (h : LnOk w r L N l) (s : ∀ i ∈ N, i ∈ N') : LnOk w r L N' l := by
  cases l with
  | op o i j => exact ⟨s _ h.1, s _ h.2⟩
  | read i => exact s _ h
  | must i c => exact ⟨s _ h.1, h.2⟩
  | write i j => exact ⟨s _ h.1, s _ h.2⟩
  | out p i => exact ⟨h.1, s _ h.2⟩
  | put a i => exact ⟨h.1, s _ h.2⟩
  | goto i => exact s _ h
  | _ => exact h
/-- what a line that does not ask and does not stop leaves -/
def wordN (E : RE) (ws : WS) (l : Ln) : Option Int := match l with
  | .must _ _ => none | .put _ _ => none | .goto _ => none | l => some (valN E ws l)
theorem runL_cons (E : RE) (all : List Ln) (ans : WS) (l : Ln) (r : List Ln) (ws : WS) (asks : List Ask) : runL E all ans (l :: r) ws asks = if l.isA = true then (match ansAt ans asks.length with
      | none => (asks ++ [askN ws l], stopN E (causeV l))
      | some a => runL E all ans r (ws ++ [some a]) (asks ++ [askN ws l]))
    else (match l with
      | .must i c => if wd ws i = 0 then (asks, stopN E (.int (c : Nat))) else runL E all ans r (ws ++ [none]) asks
      | .put _ _ => runL E all ans r (ws ++ [none]) asks
      | .goto _ => runL E all ans r (ws ++ [none]) asks
      | l => runL E all ans r (ws ++ [some (valN E ws l)]) asks) := by cases l <;> rfl
theorem runL_go {E : RE} {all : List Ln} {ans : WS} {l : Ln} {r : List Ln} {ws : WS} {asks : List Ask} (h : l.isA = false) (hm : ∀ i c, l = .must i c → wd ws i ≠ 0) : runL E all ans (l :: r) ws asks = runL E all ans r (ws ++ [wordN E ws l]) asks := by
  rw [runL_cons, if_neg (by rw [h]; decide)]
  cases l with
  | must i c => exact if_neg (hm i c rfl)
  | _ => first | rfl | cases h
theorem runL_must {E : RE} {all : List Ln} {ans : WS} {i c : Nat} {r : List Ln} {ws : WS} {asks : List Ask} (h : wd ws i = 0) : runL E all ans (.must i c :: r) ws asks = (asks, stopN E (.int (c : Nat))) := by
  rw [runL_cons, if_neg (by intro z; cases z)]
  exact if_pos h
theorem runL_no {E : RE} {all : List Ln} {ans : WS} {l : Ln} {r : List Ln} {ws : WS} {asks : List Ask} (h : l.isA = true) (ha : ansAt ans asks.length = none) : runL E all ans (l :: r) ws asks = (asks ++ [askN ws l], stopN E (causeV l)) := by
  rw [runL_cons, if_pos h, ha]
theorem runL_yes {E : RE} {all : List Ln} {ans : WS} {l : Ln} {r : List Ln} {ws : WS} {asks : List Ask} {a : Int} (h : l.isA = true) (ha : ansAt ans asks.length = some a) : runL E all ans (l :: r) ws asks = runL E all ans r (ws ++ [some a]) (asks ++ [askN ws l]) := by
  rw [runL_cons, if_pos h, ha]
theorem WsOk.snoc {ls : List Ln} {ws : WS} {l : Ln} {o : Option Int} (h : WsOk ls ws) (ho : l.isV = true → ∃ x, o = some x) : WsOk (ls ++ [l]) (ws ++ [o]) := by
  refine ⟨by rw [List.length_append, List.length_append, h.1]; rfl, fun i hi => ?_⟩
  rw [valsTo_snoc] at hi
  have old : i ∈ valsTo ls → ∃ x, (ws ++ [o])[i]? = some (some x) := fun hi => by
    obtain ⟨x, hx⟩ := h.2 i hi
    exact ⟨x, by rw [List.getElem?_append_left (List.getElem?_eq_some_iff.mp hx).1]; exact hx⟩
  cases hv : l.isV with
  | false => rw [hv, if_neg (by decide)] at hi; exact old hi
  | true =>
    rw [hv, if_pos rfl] at hi
    rcases List.mem_append.mp hi with hi | hi
    · exact old hi
    · obtain ⟨x, rfl⟩ := ho hv
      rw [List.mem_singleton.mp hi, ← h.1]
      exact ⟨x, by simp⟩
theorem AnsAt.kp {C : Addr} {H H' : Hp} {p a sl : Addr} {ans : WS} {asks : List Ask} (h : AnsAt C H p a sl ans asks) (s : Same H H') : AnsAt C H' p a sl ans asks := by
  obtain ⟨⟨dx, h1⟩, h2, ts, h3, h4⟩ := h
  exact ⟨⟨dx, s _ _ h1⟩, s _ _ h2, ts, s _ _ h3, h4.map fun u x _ r => s _ _ r⟩
theorem DoAt.kl {C CF : Addr} {H H' : Hp} {p wl sl : Addr} {f : FM} {E : RE} {L : List Nat} {ws : WS} {xs : List V} (h : DoAt C CF H p wl f E L ws) (hs : H sl = some (.lst xs)) (hne : wl ≠ sl) (s : ∀ b o, H b = some o → b ≠ sl → H' b = some o) : DoAt C CF H' p wl f E L ws := by
  obtain ⟨⟨dx, u, dl, rt, kvs, h1, h2, h3, h4, h5⟩, h6⟩ := h
  have nl : NL H H' := fun b o e n => s b o e fun z => by rw [z, hs] at e; exact n _ (Option.some.inj e).symm
  exact ⟨⟨dx, u, dl, rt, kvs, nl _ _ h1 (fun _ z => by cases z), h2.nl nl, nl _ _ h3 (fun _ z => by cases z), h4, nl _ _ h5 (fun _ z => by cases z)⟩, s _ _ h6 hne⟩
theorem look_doing_stopped (u : Addr) (k : Nat) (dl : Addr) (pl af : Int) (rt wl : Addr) : (doingF u k dl pl af rt wl).lookup ("stopped" : Str) = none := look_doing_no _ _ _ _ _ _ _ (by decide +kernel) (by decide +kernel) (by decide +kernel) (by decide +kernel) (by decide +kernel) (by decide +kernel) (by decide +kernel)
theorem look_doing_ask (u : Addr) (k : Nat) (dl : Addr) (pl af : Int) (rt wl : Addr) : (doingF u k dl pl af rt wl).lookup ("ask" : Str) = none := look_doing_no _ _ _ _ _ _ _ (by decide +kernel) (by decide +kernel) (by decide +kernel) (by decide +kernel) (by decide +kernel) (by decide +kernel) (by decide +kernel)
theorem look_doing_value (u : Addr) (k : Nat) (dl : Addr) (pl af : Int) (rt wl : Addr) : (doingF u k dl pl af rt wl).lookup ("value" : Str) = none := look_doing_no _ _ _ _ _ _ _ (by decide +kernel) (by decide +kernel) (by decide +kernel) (by decide +kernel) (by decide +kernel) (by decide +kernel) (by decide +kernel)
theorem look_doing_finished (u : Addr) (k : Nat) (dl : Addr) (pl af : Int) (rt wl : Addr) : (doingF u k dl pl af rt wl).lookup ("finished" : Str) = none := look_doing_no _ _ _ _ _ _ _ (by decide +kernel) (by decide +kernel) (by decide +kernel) (by decide +kernel) (by decide +kernel) (by decide +kernel) (by decide +kernel)
theorem ans_no (a b : Addr) : ([(("answers" : Str), V.ref a), ("asks", .ref b)]).lookup ("answer" : Str) = none := by rw [lk, if_neg (by decide +kernel), lk, if_neg (by decide +kernel)]; rfl
section
variable {P : Program} {w : World} {K : PySem.W.Frag} {mg : Str → Option Value} {base : Heap}
theorem Txt.refd (T : Txt w K mg) : KT K w T.a_REFUSED refT := T.kt_REFUSED
def sp_handed_over (T : Txt w K mg) : Sp := fun vs H Q _ => ∃ (b q nq rt ak at' sl : Addr) (F : List FM) (n r : Nat) (f : FM) (ns regs : List Int) (place : Int) (ans : WS), vs = [.ref b, .ref q, .int place, .ref rt, .ref ak] ∧ InsAt T H b q nq F n r f ns ∧ BookOk n r F ∧ H rt = some (.tup (intsV regs)) ∧ AnsAt T.C_Answers H ak at' sl ans [] ∧ RegOk r ((lettersM (pls f.ps)).map Prod.fst) (reOf n f ns place regs) ∧
  ∀ H' t asks h, runL (reOf n f ns place regs) f.ls ans f.ls [] [] = (asks, h) → (∀ c o, H c = some o → c ≠ sl → H' c = some o) → AnsAt T.C_Answers H' ak at' sl ans asks → HandAt H' t h → Q (.ref t) H'
theorem sp_handed_over_len {T : Txt w K mg} {vs H Q E} (h : sp_handed_over T vs H Q E) : vs.length = 5 := by obtain ⟨_, _, _, _, _, _, _, _, _, _, _, _, _, _, _, rfl, _⟩ := h; rfl
theorem ok_handed_over (T : Txt w K mg) : FnOk P w K mg base CX0 6 T.f_handed_over T.fd_handed_over ["book", "instruction", "place", "regs", "asker"] (sp_handed_over T) := by
  have G_Answers_answer := ok_Answers_answer (P := P) (w := w) (base := base) T; have G_Doing_ask := ok_Doing_ask (P := P) (w := w) (base := base) T; have G_Doing_finished := ok_Doing_finished (P := P) (w := w) (base := base) T; have G_Doing_stopped := ok_Doing_stopped (P := P) (w := w) (base := base) T; have G_Doing_value := ok_Doing_value (P := P) (w := w) (base := base) T; have G_Doing_init := ok_Doing_init (P := P) (w := w) (base := base) T
  refine T.F_handed_over.ok sc_handed_over (fun vs H Q E h => sp_handed_over_len h) (fun cdv A outer s H vs Q E hr h => ?_)
  obtain ⟨b, q, nq, rt, ak, at', sl, F, n, r, f, ns, regs, place, ans, rfl, hI, hB, hrt, hAn, hreg, k⟩ := h
  have sz : sizeLine = 16777216 := sizeLine_eq
  have n8 := hB.n8
  obtain ⟨fi, hfi⟩ := hI.fi
  have hlo := hB.ls f (List.mem_of_getElem? hfi)
  have l12 := hlo.len
  refine ⟨_, (pss_cons (ps_set (i := 5) sc_handed_over.nd rfl (Or.inl rfl) (pe_make T.M_Doing G_Doing_init hr rfl T.g_Doing T.b_Doing_init .nil pass0 (pa_cons (pv 0) (pa_cons (pv 1) (pa_cons (pv 2) (pa_cons (pv 3) pa_nil))))))
       (pss_cons (ps_for PassesOwn.never rfl (pi_list (pe_callTy call_listT (by rfl) T.n_list (by decide +kernel) (pa_cons (pe_fldA (pe_fldA (pv 5))) pa_nil))) (pg_name (i := 6) sc_handed_over.nd rfl (Or.inl rfl))
        (pss_cons (ps_set (i := 7) sc_handed_over.nd rfl (Or.inl rfl) (pe_ix ix_tup (pv 6) pe_int (fun _ _ => rfl)))
       (pss_cons (ps_set (i := 8) sc_handed_over.nd rfl (Or.inl rfl) pe_non)
       (Evl.pss_cut (ps_if (pt_cmpR op_in_seq (pv 7) (pe_glob (v := .ref T.a_ASKING) rfl T.c_ASKING rfl) (by rfl))
        (pss_cons (ps_set (i := 8) sc_handed_over.nd rfl (Or.inl rfl) (pe_meth (pv 4) T.cl_Answers T.m_Answers_answer G_Answers_answer (hr.mono (by decide)) T.b_Answers_answer .nil pass0 (pa_cons (pe_meth (pv 5) T.cl_Doing T.m_Doing_ask G_Doing_ask (hr.mono (by decide)) T.b_Doing_ask .nil pass0 (pa_cons (pv 6) pa_nil)) pa_nil)))
       (pss_one (ps_if (pt_cmpR op_isN (pv 8) pe_non (nomark _))
        (pss_one (ps_ret (pe_meth (pv 5) T.cl_Doing T.m_Doing_stopped G_Doing_stopped (hr.mono (by decide)) T.b_Doing_stopped .nil pass0 (pa_cons (pe_kget T.kt_REFUSED (pe_glob (v := .ref T.a_REFUSED) rfl T.c_REFUSED rfl) (pv 7) ⟨rfl, rfl, rfl, rfl⟩) pa_nil))))
        pss_nil)))
        (pss_one (ps_if (pt_cmpR op_eq (pv 7) pe_str (nomark _))
        (pss_one (ps_if (pt_cmpR op_eq (pe_ix ix_list (pe_fldA (pv 5)) (pe_ix ix_tup (pv 6) pe_int (fun _ _ => rfl)) (fun _ _ => rfl)) pe_int (nomark _))
        (pss_one (ps_ret (pe_meth (pv 5) T.cl_Doing T.m_Doing_stopped G_Doing_stopped (hr.mono (by decide)) T.b_Doing_stopped .nil pass0 (pa_cons (pe_ix ix_tup (pv 6) pe_int (fun _ _ => rfl)) pa_nil))))
        pss_nil))
        (pss_one (ps_if (pt_cmpR op_notIn_seq (pv 7) (pe_tup (pa_cons pe_str (pa_cons pe_str pa_nil))) (by rfl))
        (pss_one (ps_set (i := 8) sc_handed_over.nd rfl (Or.inl rfl) (pe_meth (pv 5) T.cl_Doing T.m_Doing_value G_Doing_value (hr.mono (by decide)) T.b_Doing_value .nil pass0 (pa_cons (pv 6) pa_nil))))
        pss_nil)))))
       (pss_one (ps_expr (pe_bm PySem.F.plainAttrs_list PySem.F.slot_list_append PySem.F.type_list_append mt_append (pe_fldA (pv 5)) (pa_cons (pv 8) pa_nil))))))))
       (pss_one (ps_ret (pe_meth0 (pv 5) T.cl_Doing T.m_Doing_finished G_Doing_finished (hr.mono (by decide)) T.b_Doing_finished .nil pass0))))), ?_⟩
  refine ⟨_, rfl, _, rfl, _, rfl, _, rfl, fun dp dd dp0 dd0 dne => ?_⟩
  have sd : Same H (upd (upd H dd (.own dp)) dp (.ins T.C_Doing dd [])) := (same_new dd0).trans (same_new (by rw [upd_ne (Ne.symm dne)]; exact dp0))
  refine ⟨dp, dd, b, q, nq, rt, F, n, r, f, ns, regs, place, rfl, upd_same, hI.news sd, by omega, sd _ _ hrt, fun H2 wl k2 wl0 hDo => ⟨rfl, ?_⟩⟩
  have s2 : Same H H2 := fun c o e => k2 _ _ (sd _ _ e) fun z => by rw [z, dp0] at e; cases e
  have wlN : H wl = none := by
    cases e : H wl with
    | none => rfl
    | some o => rw [sd _ _ e] at wl0; cases wl0
  have A2 := hAn.kp s2
  generalize hE : reOf n f ns place regs = E' at hDo hreg k
  have hEk : E'.k = n := by rw [← hE]; rfl
  generalize hLt : (lettersM (pls f.ps)).map Prod.fst = L at hDo hreg hlo
  obtain ⟨⟨ddx, u, dl, rt', kvs, h1, h2, h3, h4, h5⟩, h6⟩ := id hDo
  obtain ⟨fdx, fpt, fln, flt, ffx, hfo, hfpt, ⟨lus, hfln, hfR⟩, hflt, hffx⟩ := id h2
  have lul := hfR.1
  refine ⟨_, rfl, dp, T.C_Doing, ddx, _, _, rfl, h1, T.cl_Doing, T.nA_Doing_form, look_doing_form .., u, T.C_Form, fdx, _, _, rfl, hfo, T.cl_Form, T.nA_Form_lines, look_form_lines .., fln, _, rfl, SqT.of hfln, fun lc lc0 => ?_⟩
  have s3 := same_new (o := .lst lus) lc0
  have slN : sl ≠ wl := fun z => by obtain ⟨_, _, ts, e, _⟩ := hAn; rw [z, wlN] at e; cases e
  have lcwl : lc ≠ wl := fun z => by rw [z, h6] at lc0; cases lc0
  have lcsl : lc ≠ sl := fun z => by obtain ⟨_, _, ts, e, _⟩ := A2; rw [z, e] at lc0; cases lc0
  refine ⟨lc, rfl, ⟨_, SqL.of upd_same⟩, ?_⟩
  have fR2 : ∀ u' l', LnAt H2 u' l' → u' ≠ wl ∧ u' ≠ sl := fun u' l' e => ⟨fun z => (by rw [z] at e; unfold LnAt at e; rw [h6] at e; cases e), fun z => (by obtain ⟨_, _, ts, e', _⟩ := A2; rw [z] at e; unfold LnAt at e; rw [e'] at e; cases e)⟩
  refine for_it (walk_list (xs := lus)) (fun i σ H3 => (∀ c o, H2 c = some o → c ≠ wl → c ≠ sl → H3 c = some o) ∧ H3 lc = some (.lst lus) ∧ (∃ ws asks, WsOk (f.ls.take i) ws ∧ DoAt T.C_Doing T.C_Form H3 dp wl f E' L ws ∧ AnsAt T.C_Answers H3 ak at' sl ans asks ∧ asks.length ≤ i ∧ runL E' f.ls ans f.ls [] [] = runL E' f.ls ans (f.ls.drop i) ws asks) ∧ ∃ v6 v7 v8 : Option V, σ = [some (.ref b), some (.ref q), some (.int place), some (.ref rt), some (.ref ak), some (.ref dp), v6, v7, v8])
    ⟨fun c o e _ _ => s3 _ _ e, upd_same, ⟨[], [], ⟨rfl, fun i hi => by cases hi⟩, hDo.news s3, A2.kp s3, Nat.le_refl _, by rw [List.drop_zero]⟩, none, none, none, rfl⟩ (fun i σ H3 _ ⟨_, e, _⟩ => SqL.of e) ?_ ?_
  · rintro i x σ H3 H4 hi ⟨k3, hlc, ⟨ws, asks, hW, hD3, hA3, hal, hrun⟩, v6, v7, v8, rfl⟩ ⟨rfl, hx⟩
    obtain ⟨lu, l, hl, hu, hr⟩ := hfR.at (i := i) (by omega)
    have hux := hu.symm.trans hx
    cases hux
    obtain ⟨lw, ls'⟩ := fR2 _ _ hr
    have hr3 := k3 _ _ hr lw ls'
    have hil := (List.getElem?_eq_some_iff.mp hl).1
    have etk : f.ls.take (i + 1) = f.ls.take i ++ [l] := by rw [List.take_succ, hl]; rfl
    have edr : f.ls.drop i = l :: f.ls.drop (i + 1) := by rw [List.drop_eq_getElem_cons hil, (List.getElem?_eq_some_iff.mp hl).2]
    rw [edr] at hrun
    have hok := hlo.ok i l hl
    obtain ⟨⟨ddx', u', dl', rt'', kvs', g1, g2, g3, g4, g5⟩, g6⟩ := id hD3
    refine ⟨_, rfl, lu, _, _, _, rfl, rfl, SqT.of hr3, ln_at0 l, ?_⟩
    refine ⟨fun σ' H' => (∀ c o, H4 c = some o → c ≠ sl → H' c = some o) ∧ ∃ (o : Option Int) (asks' : List Ask), DoAt T.C_Doing T.C_Form H' dp wl f E' L ws ∧ AnsAt T.C_Answers H' ak at' sl ans asks' ∧ asks'.length ≤ i + 1 ∧ (l.isV = true → ∃ x, o = some x) ∧ runL E' f.ls ans f.ls [] [] = runL E' f.ls ans (f.ls.drop (i + 1)) (ws ++ [o]) asks' ∧ σ' = [some (.ref b), some (.ref q), some (.int place), some (.ref rt), some (.ref ak), some (.ref dp), some (.ref lu), some (.str l.nm), some (optV o)], ?_, ?_⟩
    · refine ⟨_, rfl, T.a_ASKING, (["read", "write", "in", "out"] : List Str).map V.str, rfl, .inr (T.v_ASKING _), rfl, flatStrs _, _, rfl, ?_⟩
      rw [inStrs, nm_ask]
      refine iteB (fun (c : l.isA = true) => ?_) fun (c : l.isA = false) => ?_
      · obtain ⟨⟨adx, a1⟩, a2, ts, a3, a4⟩ := id hA3
        refine ⟨_, rfl, ak, adx, _, rfl, a1, ans_no .., _, rfl, dp, ddx', _, rfl, g1, look_doing_ask .., _, rfl, dp, lu, wl, f, E', L, _, ws, l, n, r, rfl, hD3, hr3, c, hok, hW.2, fun H5 t s5 t0 hAsk => ?_⟩
        have tl : t ≠ sl := fun z => by rw [z, a3] at t0; cases t0
        refine ⟨ak, t, at', sl, ans, asks, _, rfl, hA3.kp s5, hAsk, by omega, fun H6 k6 hA6 => ?_⟩
        have a3' := s5 _ _ a3
        have hD6 := (hD3.news s5).kl a3' slN.symm k6
        refine ⟨_, rfl, rfl, _, rfl, ?_⟩
        cases ha : ansAt ans asks.length with
        | none =>
          rw [runL_no c ha] at hrun
          refine iteP (by decide) ?_
          obtain ⟨⟨edx, eu, edl, ert, ekv, e1, e2, e3, e4, e5⟩, e6⟩ := id hD6
          refine ⟨_, rfl, dp, edx, _, rfl, e1, look_doing_stopped .., rfl, _, rfl, l.nm, rfl, ?_⟩
          refine ⟨dp, wl, f, E', L, ws, causeV l, congrArg (fun z => V.ref dp :: ([z] ++ [])) (ref_nm l c), hD6, fun H7 t7 s7 t70 hH => ?_⟩
          refine k _ t7 _ _ hrun (fun c' o e hc => ?_) (hA6.kp s7) hH
          have : c' ≠ wl := fun z => by rw [z, wlN] at e; cases e
          exact s7 _ _ (k6 _ _ (s5 _ _ (k3 _ _ (s2 _ _ e) this hc)) hc)
        | some a =>
          rw [runL_yes c ha] at hrun
          refine iteN (by show ¬ decide (V.int a = V.non) = true; exact dF (by intro z; cases z)) ?_
          refine ⟨fun c' o e hc => k6 _ _ (s5 _ _ e) hc, some a, asks ++ [askN ws l], hD6, hA6, by rw [List.length_append, List.length_singleton]; omega, fun _ => ⟨a, rfl⟩, hrun, rfl⟩
      · refine ⟨_, rfl, rfl, _, rfl, ?_⟩
        rw [nm_dec "must" (· == 13) (by decide +kernel)]
        refine iteB (fun c13 => ?_) fun c13 => ?_
        · obtain ⟨i0, c0, rfl⟩ : ∃ i0 c0, l = .must i0 c0 := by
            cases l with
            | must i' c' => exact ⟨i', c', rfl⟩
            | op o _ _ => cases o <;> cases c13
            | _ => cases c13
          obtain ⟨y, hy⟩ := hW.2 i0 hok.1
          refine ⟨_, rfl, dp, T.C_Doing, ddx', _, _, rfl, g1, T.cl_Doing, T.nA_Doing_words, look_doing_words .., ?_⟩
          refine ⟨_, rfl, lu, _, _, _, rfl, rfl, SqT.of hr3, ln_at1 (l := .must i0 c0) rfl, wl, _, _, _, rfl, rfl, SqL.of g6, atI_nat (optsV_at hy), rfl, _, rfl, ?_⟩
          by_cases hz : y = 0
          · subst hz
            rw [runL_must (wd_at hy)] at hrun
            refine iteP (by decide) ?_
            refine ⟨_, rfl, dp, ddx', _, rfl, g1, look_doing_stopped .., _, rfl, lu, _, _, _, rfl, rfl, SqT.of hr3, ln_at2 (l := .must i0 c0) rfl, ?_⟩
            refine ⟨dp, wl, f, E', L, ws, _, rfl, hD3, fun H7 t7 s7 t70 hH => ?_⟩
            refine k _ t7 _ _ hrun (fun c' o e hc => ?_) (hA3.kp s7) hH
            have : c' ≠ wl := fun z => by rw [z, wlN] at e; cases e
            exact s7 _ _ (k3 _ _ (s2 _ _ e) this hc)
          · rw [runL_go c (fun i c e => by cases e; rw [wd_at hy]; exact hz)] at hrun
            refine iteN (by show ¬ decide (V.int y = V.int 0) = true; exact dF (by intro z; injection z with z; exact hz z)) ?_
            exact ⟨fun c' o e hc => e, none, asks, hD3, hA3, by omega, (fun h => by cases h), hrun, rfl⟩
        · have hnm : ∀ i c, l = .must i c → wd ws i ≠ 0 := fun i c e => by rw [e] at c13; cases c13
          rw [runL_go c hnm] at hrun
          refine ⟨_, rfl, by show 2 ≤ _; omega, fun g g0 => ?_⟩
          have s5 := same_new (o := .tup [.str "put", .str "goto"]) g0
          refine ⟨g, (["put", "goto"] : List Str).map V.str, rfl, .inr (SqT.of upd_same), rfl, flatStrs _, _, rfl, ?_⟩
          rw [inStrs, nm_pg]
          refine iteB (fun (c16 : (!(l.kd == 16 || l.kd == 17)) = true) => ?_) fun (c16 : (!(l.kd == 16 || l.kd == 17)) = false) => ?_
          · have hv : l.isV = true := by
              cases l with
              | must i c => cases c13
              | write i c => cases c
              | out i c => cases c
              | put i c => cases c16
              | goto i => cases c16
              | _ => rfl
            refine ⟨_, rfl, dp, ddx', _, rfl, s5 _ _ g1, look_doing_value .., _, rfl, dp, lu, wl, f, E', L, _, ws, l, n, r, rfl, hD3.news s5, s5 _ _ hr3, c, hv, hok, hW.2, hreg, by rw [hEk]; omega, ?_⟩
            refine ⟨fun c' o e hc => s5 _ _ e, some (valN E' ws l), asks, hD3.news s5, hA3.kp s5, by omega, fun _ => ⟨_, rfl⟩, ?_, rfl⟩
            rw [hrun]
            have : wordN E' ws l = some (valN E' ws l) := by
              cases l with
              | must i c => cases c13
              | put i c => cases c16
              | goto i => cases c16
              | _ => rfl
            rw [this]
          · refine ⟨fun c' o e hc => s5 _ _ e, none, asks, hD3.news s5, hA3.kp s5, by omega, fun h => ?_, ?_, rfl⟩
            · cases l with
              | put i c => cases h
              | goto i => cases h
              | op o _ _ => cases o <;> cases c16
              | _ => cases c16
            · rw [hrun]
              have : wordN E' ws l = none := by
                cases l with
                | put i c => rfl
                | goto i => rfl
                | op o _ _ => cases o <;> cases c16
                | _ => cases c16
              rw [this]
    · rintro σ' H5 ⟨k5, o, asks', hD5, hA5, ha5, hv, hrun5, rfl⟩
      obtain ⟨⟨edx, eu, edl, ert, ekv, e1, e2, e3, e4, e5⟩, e6⟩ := id hD5
      have hwl := hW.1
      refine ⟨_, rfl, dp, T.C_Doing, edx, _, _, rfl, e1, T.cl_Doing, T.nA_Doing_words, look_doing_words .., .inl ⟨rfl, _, SqL.of e6⟩, _, rfl, wl, _, _, rfl, rfl, e6, by rw [optsV_len, hwl, List.length_take]; omega, ?_⟩
      rw [optsV_snoc]
      have nl5 := NL.list e6 (o := .lst (optsV (ws ++ [o])))
      refine ⟨fun c' o' e h1 h2 => by rw [upd_ne h1]; exact k5 _ _ (k3 _ _ e h1 h2) h2, by rw [upd_ne lcwl]; exact k5 _ _ hlc lcsl, ⟨ws ++ [o], asks', by rw [etk]; exact hW.snoc hv, ⟨⟨edx, eu, edl, ert, ekv, nl5 _ _ e1 (fun _ z => by cases z), e2.nl nl5, nl5 _ _ e3 (fun _ z => by cases z), e4, nl5 _ _ e5 (fun _ z => by cases z)⟩, upd_same⟩, ?_, ha5, hrun5⟩, _, _, _, rfl⟩
      obtain ⟨⟨adx, a1⟩, a2, ts, a3, a4⟩ := hA5
      exact ⟨⟨adx, nl5 _ _ a1 (fun _ z => by cases z)⟩, nl5 _ _ a2 (fun _ z => by cases z), ts, by rw [upd_ne slN]; exact a3, a4.map fun u x _ r => nl5 _ _ r fun _ z => by cases z⟩
  · rintro σ H3 ⟨k3, hlc, ⟨ws, asks, hW, hD3, hA3, hal, hrun⟩, v6, v7, v8, rfl⟩
    rw [List.take_of_length_le (by omega)] at hW
    rw [List.drop_of_length_le (by omega)] at hrun
    obtain ⟨⟨edx, eu, edl, ert, ekv, e1, e2, e3, e4, e5⟩, e6⟩ := id hD3
    refine ⟨_, rfl, dp, edx, _, rfl, e1, look_doing_finished .., dp, wl, f, E', L, valsTo f.ls, ws, n, r, rfl, hD3, fun i l hl => ?_, l12, hW.2, hreg, fun H7 t7 s7 t70 hH => ?_⟩
    · refine (hlo.ok i l hl).mono fun j hj => ?_
      have e : f.ls = f.ls.take i ++ f.ls.drop i := (List.take_append_drop i _).symm
      rw [e]
      unfold valsTo at hj ⊢
      rw [List.zipIdx_append, List.filter_append, List.map_append]
      exact List.mem_append_left _ hj
    · refine k _ t7 _ _ hrun (fun c' o e hc => ?_) (hA3.kp s7) hH
      have : c' ≠ wl := fun z => by rw [z, wlN] at e; cases e
      exact s7 _ _ (k3 _ _ (s2 _ _ e) this hc)
end
end My

/-! JG -/
namespace My
open PySem L2
local macro_rules | `(tactic| walk_at "side") => `(tactic| first | with_reducible rfl | assumption | rfl | decide | omega | exact cpow1 (by omega) (by omega) | exact cdiv (by omega) (by omega) | exact two_pos _ | exact SqL.of (by assumption) | exact SqT.of (by assumption) | exact TyX.base (TyOf.int _) | exact TyX.base (TyOf.bl _) | exact TyX.base TyOf.non | exact scal_opt _ _ | exact k_ii | exact k_bi | exact k_ni | exact k_ib | exact k_bb | exact TyX.base (TyOf.lst (by assumption)) | exact k_ll | exact k_lt)
local macro_rules | `(tactic| walk_at "p") => `(tactic| repeat (first | refine And.intro (by walk_at "side") ?_ | apply Exists.intro | refine iteN (by assumption) ?_ | refine iteP (by assumption) ?_ | refine iteN (by decide) ?_ | refine iteP (by decide) ?_))

def okAns (n : Nat) (ans : WS) : Prop := ∀ (x : Int), some x ∈ ans → 0 ≤ x ∧ x < 2 ^ n
def RunAt (H : Hp) (t : Addr) (asks : List Ask) (h : Hand) : Prop := ∃ sa ht ts, H t = some (.tup [.ref sa, .ref ht]) ∧ H sa = some (.tup ts) ∧ Refs H ts asks AskAt ∧ HandAt H ht h
theorem optV_plain (o : Option Int) : plain4 (optV o) = true := by cases o <;> rfl
theorem lv_in {L : List (Nat × Nat)} {ns : List Int} {c : Nat} (h : c ∈ L.map Prod.fst) (hl : ns.length = L.length) : ∃ (i : Nat) (q : Nat × Nat), L[i]? = some q ∧ q.1 = c ∧ ns[i]? = some (lvOf L ns c) := by
  unfold lvOf
  cases hf : (L.zip ns).find? fun q => decide (q.1.1 = c) with
  | some z =>
    obtain ⟨i, hi⟩ := List.getElem?_of_mem (List.mem_of_find?_eq_some hf)
    obtain ⟨h1, h2⟩ := List.getElem?_zip_eq_some.mp hi
    exact ⟨i, z.1, h1, of_decide_eq_true (show decide (z.1.1 = c) = true from List.find?_some (p := fun q : (Nat × Nat) × Int => decide (q.1.1 = c)) hf), h2⟩
  | none =>
    exfalso
    obtain ⟨q, hq, rfl⟩ := List.mem_map.mp h
    obtain ⟨i, hi⟩ := List.getElem?_of_mem hq
    have il := (List.getElem?_eq_some_iff.mp hi).1
    have hx := List.getElem?_eq_getElem (l := ns) (i := i) (by omega)
    have hz : (L.zip ns)[i]? = some (q, ns[i]) := List.getElem?_zip_eq_some.mpr ⟨hi, hx⟩
    exact List.find?_eq_none.mp hf _ (List.mem_of_getElem? hz) (decide_eq_true rfl)
theorem fit_lv {L : List (Nat × Nat)} {ns : List Int} (hf : fitL L (intsV ns) = true) {c : Nat} (h : c ∈ L.map Prod.fst) : ∃ q ∈ L, q.1 = c ∧ 0 ≤ lvOf L ns c ∧ lvOf L ns c < 2 ^ q.2 := by
  obtain ⟨hl, hw⟩ := fit_all.mp hf
  rw [intsV_len] at hl
  obtain ⟨i, q, h1, h2, h3⟩ := lv_in h hl.symm
  have := hw i q _ h1 (intsV_at h3)
  unfold isW at this
  exact ⟨q, List.mem_of_getElem? h1, h2, of_decide_eq_true this⟩
theorem regOk_of {n r : Nat} {f : FM} {ns regs : List Int} {place : Int} (hp : PatsOk n r f.ps) (hf : fitL (lettersM (pls f.ps)) (intsV ns) = true) (hr : regs.length = r) (r4 : r ≤ 4) : RegOk r ((lettersM (pls f.ps)).map Prod.fst) (reOf n f ns place regs) := by
  refine ⟨fun a ha => ?_, by show regs.length ≤ 16; omega⟩
  cases a with
  | l c =>
    obtain ⟨h1, h2⟩ := ha
    obtain ⟨q, hq, rfl, b0, b1⟩ := fit_lv hf h1
    have hb := (hp.bits q hq).2 (decide_eq_true h2)
    have e : ((2 ^ q.2 : Nat) : Int) = 2 ^ q.2 := Int.natCast_pow 2 _
    show 0 ≤ lvOf _ _ q.1 ∧ lvOf _ _ q.1 < (regs.length : Int)
    omega
  | n i =>
    have : i < r := ha
    show (0 : Int) ≤ (i : Nat) ∧ ((i : Nat) : Int) < (regs.length : Int)
    omega
theorem BookOk.let64 {n r : Nat} {F : List FM} (h : BookOk n r F) : ∀ f ∈ F, (lettersM (pls f.ps)).length ≤ 64 ∧ ∀ q ∈ lettersM (pls f.ps), q.2 ≤ 64 := fun f hf =>
  ⟨Nat.le_trans (lettersM_le _) (by decide), fun q hq => Nat.le_trans ((h.ps f hf).bits q hq).1 (Nat.le_trans h.n8 (by decide))⟩
theorem BookOk.same {n r : Nat} {F : List FM} (h : BookOk n r F) {i j : Nat} {f g : FM} (hf : F[i]? = some f) (hg : F[j]? = some g) (e : f.nm = g.nm) : f = g := by
  have g1 : (F.map FM.nm)[i]? = some f.nm := by rw [List.getElem?_map, hf]; rfl
  have g2 : (F.map FM.nm)[j]? = some g.nm := by rw [List.getElem?_map, hg]; rfl
  have a1 := List.getElem?_eq_some_iff.mp g1
  have a2 := List.getElem?_eq_some_iff.mp g2
  have ij : i = j := by
    rcases Nat.lt_trichotomy i j with hlt | heq | hgt
    · exact absurd (by rw [a1.2, a2.2, e]) (List.pairwise_iff_getElem.mp h.nd i j a1.1 a2.1 hlt)
    · exact heq
    · exact absurd (by rw [a1.2, a2.2, e]) (List.pairwise_iff_getElem.mp h.nd j i a2.1 a1.1 hgt)
  subst ij
  rw [hf] at hg
  exact Option.some.inj hg
section
variable {P : Program} {w : World} {K : PySem.W.Frag} {mg : Str → Option Value} {base : Heap}
def sp_check_answers (T : Txt w K mg) : Sp := fun vs H Q _ => ∃ (a : Addr) (ans : WS) (n : Nat), vs = [.int (n : Nat), .ref a] ∧ Row H a (optsV ans) ∧ n ≤ 12 ∧ okAns n ans ∧ ans.length ≤ 5000 ∧ ∀ H' t, Same H H' → H' t = some (.tup (optsV ans)) → Q (.ref t) H'
theorem sp_check_answers_len {T : Txt w K mg} {vs H Q E} (h : sp_check_answers T vs H Q E) : vs.length = 2 := by obtain ⟨_, _, _, rfl, _⟩ := h; rfl
theorem ok_check_answers (T : Txt w K mg) : FnOk P w K mg base (L2.CX P w) 4 T.f_check_answers T.fd_check_answers ["word", "answers"] (sp_check_answers T) := by
  have G_check_length := ok_check_length (P := P) (w := w) (base := base) T; have G_is_word := ok_is_word (P := P) (w := w) (base := base) T; have G_BadWords_init := ok_BadWords_init (P := P) (w := w) (base := base) T
  refine T.F_check_answers.okX sc_check_answers (fun vs H Q E h => sp_check_answers_len h) (fun cdv A outer s H vs Q E hr h => ?_)
  obtain ⟨a, ans, n, rfl, ha, n12, hok, l5, k⟩ := h
  have sz : sizeLine = 16777216 := sizeLine_eq
  refine ⟨_, (pss_cons (ps_expr (pe_call G_check_length hr rfl T.g_check_length T.F_check_length.kp T.b_check_length .nil (passes_call (takes_of rfl rfl rfl rfl) (fun _ _ _ _ h => h)) (pa_cons (pv 1) (pa_cons pe_non pa_nil))))
       (pss_cons (ps_for (passes_of rfl) rfl (pi_enS (by rfl) T.n_enumerate (pa_cons (pv 1) pa_nil)) (pg_tup (n := 2) rfl (pgs_cons (pg_name (i := 2) sc_check_answers.nd rfl (Or.inl rfl)) (pgs_cons (pg_name (i := 3) sc_check_answers.nd rfl (Or.inl rfl)) pgs_nil)))
        (pss_one (ps_if (PW.pt (pw_and (pt_cmpR op_notN (pv 3) pe_non (nomark _)) (pw_and1 (pt_not (pt_val (pe_call G_is_word (hr.mono (by decide)) rfl T.g_is_word T.F_is_word.kp T.b_is_word .nil pass0 (pa_cons (pv 3) (pa_cons (pv 0) pa_nil))))))))
        (pss_one (ps_raise rfl (takes_of rfl rfl rfl rfl) (pmk_E T.o_BadWords T.ii_BadWords T.it_BadWords G_BadWords_init (hr.mono (by decide)) T.b_BadWords_init (by rfl) T.g_BadWords (pa_cons (pv 2) pa_nil))))
        pss_nil)))
       (pss_one (ps_ret (pe_callTy call_tupleS (by rfl) T.n_tuple (by decide +kernel) (pa_cons (pv 1) pa_nil)))))), ?_⟩
  refine ⟨_, rfl, .ref a, none, rfl, .inr ⟨a, _, rfl, ha, by rw [optsV_len]; exact l5, fun _ H1 s1 => ?_, fun ⟨m, e, _⟩ => by cases e⟩⟩
  have ha1 := ha.news s1
  refine ⟨_, rfl, a, _, rfl, ha1, fun J G wk hG => ?_⟩
  refine for_it wk (fun i σ H3 => Same H1 H3 ∧ ∃ v2 v3 : Option V, σ = [some (.int (n : Nat)), some (.ref a), v2, v3]) ⟨Same.refl _, none, none, rfl⟩ ?_ ?_ ?_
  · rintro i σ H3 hi ⟨s3, _⟩
    exact hG _ (by rw [ha1.eq s3])
  · rintro i x σ H3 H4 hi ⟨s3, v2, v3, rfl⟩ ⟨T', x', y', rfl, hT0, rfl, hx', hy⟩
    cases hx'
    obtain ⟨o, ho, rfl⟩ : ∃ o, ans[i]? = some o ∧ y' = optV o := by
      unfold optsV at hy
      cases h : ans[i]? with
      | none =>
        have hy2 : (ans.map optV)[i]? = some y' := hy
        rw [List.getElem?_map, h] at hy2; cases hy2
      | some o =>
        have hy2 : (ans.map optV)[i]? = some y' := hy
        rw [List.getElem?_map, h] at hy2; exact ⟨o, rfl, (Option.some.inj hy2).symm⟩
    have s4 := same_new (o := .tup [.int (i : Nat), optV o]) hT0
    refine ⟨T', _, rfl, SqT.of upd_same, rfl, _, _, rfl, _, _, rfl, rfl, ?_⟩
    cases o with
    | none =>
      exact ⟨_, rfl, rfl, _, rfl, iteN (by show ¬ (!decide (V.non = V.non)) = true; decide) (iteN (by decide) ⟨s3.trans s4, _, _, rfl⟩)⟩
    | some x =>
      obtain ⟨b0, b1⟩ := hok x (List.mem_of_getElem? ho)
      refine ⟨_, rfl, rfl, _, rfl, iteP (by show (!decide (V.int x = V.non)) = true; rw [decide_eq_false (by intro z; cases z)]; rfl) ?_⟩
      refine ⟨_, rfl, _, rfl, .int x, n, rfl, rfl, by omega, _, rfl, ?_⟩
      have : isW n (.int x) = true := decide_eq_true ⟨b0, b1⟩
      rw [this]
      exact iteN (by decide) ⟨s3.trans s4, _, _, rfl⟩
  · rintro σ H3 ⟨s3, v2, v3, rfl⟩
    rcases ha1.news s3 with h | h
    · exact ⟨_, rfl, a, _, rfl, .inl ⟨SqL.of h, fun l hl => k _ l ((s1.trans s3).trans (same_new hl)) upd_same⟩⟩
    · exact ⟨_, rfl, a, _, rfl, .inr ⟨SqT.of h, k H3 a (s1.trans s3) h⟩⟩
def sp_run_code (T : Txt w K mg) : Sp := fun vs H Q _ => ∃ (b q nq ra aa : Addr) (F : List FM) (n r : Nat) (f : FM) (ns regs : List Int) (place : Int) (ans : WS), vs = [.ref b, .ref q, .int place, .ref ra, .ref aa] ∧ InsAt T H b q nq F n r f ns ∧ BookOk n r F ∧ fitL (lettersM (pls f.ps)) (intsV ns) = true ∧ 0 ≤ place ∧ place < 2 ^ n ∧
  Row H ra (intsV regs) ∧ regs.length = r ∧ (∀ x ∈ regs, 0 ≤ x ∧ x < 2 ^ n) ∧ Row H aa (optsV ans) ∧ okAns n ans ∧ ans.length ≤ 1000 ∧
  ∀ H' t asks h, runL (reOf n f ns place regs) f.ls ans f.ls [] [] = (asks, h) → Same H H' → RunAt H' t asks h → Q (.ref t) H'
theorem sp_run_code_len {T : Txt w K mg} {vs H Q E} (h : sp_run_code T vs H Q E) : vs.length = 5 := by obtain ⟨_, _, _, _, _, _, _, _, _, _, _, _, _, rfl, _⟩ := h; rfl
theorem ok_run_code (T : Txt w K mg) : FnOk P w K mg base (L2.CX P w) 7 T.f_run_code T.fd_run_code ["book", "instruction", "place", "regs", "answers"] (sp_run_code T) := by
  have G_Answers_init := ok_Answers_init (P := P) (w := w) (base := base) T; have G_check_answers := ok_check_answers (P := P) (w := w) (base := base) T; have G_check_int := ok_check_int (P := P) (w := w) (base := base) T; have G_check_words := ok_check_words (P := P) (w := w) (base := base) T; have G_form_of := ok_form_of (P := P) (w := w) (base := base) T; have G_handed_over := ok_handed_over (P := P) (w := w) (base := base) T; have G_ones := ok_ones (P := P) (w := w) (base := base) T; have G_BadSource_init := ok_BadSource_init (P := P) (w := w) (base := base) T
  refine T.F_run_code.okX sc_run_code (fun vs H Q E h => sp_run_code_len h) (fun cdv A outer s H vs Q E hr h => ?_)
  obtain ⟨b, q, nq, ra, aa, F, n, r, f, ns, regs, place, ans, rfl, hI, hB, hfit, p0, p1, hra, hrl, hrw, haa, hao, hal, k⟩ := h
  obtain ⟨hBk, hN, ⟨fi, hfi⟩, hq, hnq, hl⟩ := id hI
  have sz : sizeLine = 16777216 := sizeLine_eq
  have n8 := hB.n8
  have r4 := hB.r4
  have hfm := List.mem_of_getElem? hfi
  have L5 := lettersM_le (pls f.ps)
  obtain ⟨bdx, ft, nd, tx, hO, hF⟩ := id hBk
  refine ⟨_, (pss_cons (ps_expr (pe_call G_form_of (hr.mono (by decide)) rfl T.g_form_of T.F_form_of.kp T.b_form_of .nil (passes_call (takes_of rfl rfl rfl rfl) (fun _ _ _ _ h => h)) (pa_cons (pv 0) (pa_cons (pv 1) pa_nil))))
       (pss_cons (ps_expr (pe_call G_check_int (hr.mono (by decide)) rfl T.g_check_int T.F_check_int.kp T.b_check_int .nil pass0 (pa_cons (pv 2) (pa_cons pe_int (pa_cons (pe_call G_ones (hr.mono (by decide)) rfl T.g_ones T.F_ones.kp T.b_ones .nil pass0 (pa_cons (pe_fldA (pv 0)) pa_nil)) (pa_cons pe_str pa_nil))))))
       (pss_cons (ps_set (i := 3) sc_run_code.nd rfl (Or.inl rfl) (pe_call G_check_words (hr.mono (by decide)) rfl T.g_check_words T.F_check_words.kp T.b_check_words .nil (passes_call (takes_of rfl rfl rfl rfl) (fun _ _ _ _ h => h)) (pa_cons (pv 3) (pa_cons (pe_fldA (pv 0)) (pa_cons (pe_fldA (pv 0)) pa_nil)))))
       (pss_cons (ps_set (i := 5) sc_run_code.nd rfl (Or.inl rfl) (pe_make T.M_Answers G_Answers_init (hr.mono (by decide)) rfl T.g_Answers T.b_Answers_init .nil pass0 (pa_cons (pe_call G_check_answers (hr.mono (by decide)) rfl T.g_check_answers T.F_check_answers.kp T.b_check_answers .nil (passes_call (takes_of rfl rfl rfl rfl) (fun _ _ _ _ h => h)) (pa_cons (pe_fldA (pv 0)) (pa_cons (pv 4) pa_nil))) pa_nil)))
       (pss_cons (ps_set (i := 6) sc_run_code.nd rfl (Or.inl rfl) (pe_call G_handed_over hr rfl T.g_handed_over T.F_handed_over.kp T.b_handed_over .nil pass0 (pa_cons (pv 0) (pa_cons (pv 1) (pa_cons (pv 2) (pa_cons (pv 3) (pa_cons (pv 5) pa_nil)))))))
       (pss_one (ps_ret (pe_tup (pa_cons (pe_callTy call_tupleL (by rfl) T.n_tuple (by decide +kernel) (pa_cons (pe_fldA (pv 5)) pa_nil)) (pa_cons (pv 6) pa_nil)))))))))), ?_⟩
  refine ⟨_, rfl, _, rfl, b, .ref q, F, n, r, rfl, hBk, hN, hB.let64, .inr (.inr (.inr ⟨q, nq, .str f.nm, intsV ns, rfl, .inr hq, hnq, rfl, (fun y hy => by obtain ⟨z, _, rfl⟩ := List.mem_map.mp hy; rfl), by rw [intsV_len]; omega, fun no => absurd rfl (no f hfm), fun i f' hf' e => ?_⟩))⟩
  have ef : f' = f := hB.same hf' hfi (V.str.inj e).symm
  subst ef
  refine ⟨fun _ H1 u s1 hU => ?_, fun z => by rw [hfit] at z; cases z⟩
  refine ⟨_, rfl, _, rfl, b, T.C_Book, bdx, _, _, rfl, s1 _ _ hO, T.cl_Book, T.nA_Book_word, look_book_word .., n, rfl, by omega, _, _, _, _, rfl, p0, by omega, ?_⟩
  refine ⟨_, rfl, _, rfl, b, T.C_Book, bdx, _, _, rfl, s1 _ _ hO, T.cl_Book, T.nA_Book_word, look_book_word .., _, rfl, b, T.C_Book, bdx, _, _, rfl, s1 _ _ hO, T.cl_Book, T.nA_Book_registers, look_book_registers .., ?_⟩
  refine ⟨.ref ra, n, some r, rfl, by omega, .inr ⟨ra, _, rfl, hra.news s1, (fun y hy => by obtain ⟨z, _, rfl⟩ := List.mem_map.mp hy; rfl), by rw [intsV_len]; omega, fun ⟨m, e, h⟩ => absurd (Option.some.inj e) (by rw [intsV_len] at h; omega), fun _ => ⟨fun _ H2 rt s2 hrt => ?_, fun i hi => ?_⟩⟩⟩
  rotate_left
  · exfalso
    have : badI (2 ^ n - 1) (intsV regs) = none := badI_no fun j y _ hy => by
      obtain ⟨z, hz, rfl⟩ := List.mem_map.mp (List.mem_of_getElem? hy)
      have := hrw z hz
      exact decide_eq_true (by omega)
    rw [this] at hi; cases hi
  have s12 := s1.trans s2
  refine ⟨_, rfl, b, T.C_Book, bdx, _, _, rfl, s12 _ _ hO, T.cl_Book, T.nA_Book_word, look_book_word .., _, rfl, aa, ans, n, rfl, haa.news s12, by omega, hao, by omega, fun H3 at' s3 hat => ?_⟩
  intro ak ad ak0 ad0 ane
  have sg : Same H3 (upd (upd H3 ad (.own ak)) ak (.ins T.C_Answers ad [])) := (same_new ad0).trans (same_new (by rw [upd_ne (Ne.symm ane)]; exact ak0))
  refine ⟨ak, ad, at', ans, rfl, upd_same, sg _ _ hat, fun H4 sl k4 sl0 hAn => ⟨rfl, ?_⟩⟩
  have s34 : Same H3 H4 := fun c o e => k4 _ _ (sg _ _ e) fun z => by rw [z, ak0] at e; cases e
  have S4 := (s12.trans s3).trans s34
  refine ⟨_, rfl, _, rfl, _, rfl, _, rfl, _, rfl, b, q, nq, rt, ak, at', sl, F, n, r, f', ns, regs, place, ans, rfl, hI.news S4, hB, (s3.trans s34) _ _ hrt, hAn, regOk_of (hB.ps _ hfm) hfit hrl r4, fun H5 t asks h hrun k5 hA5 hH => ?_⟩
  have slN : H sl = none := by
    cases e : H sl with
    | none => rfl
    | some o => rw [sg _ _ ((s12.trans s3) _ _ e)] at sl0; cases sl0
  have S5 : Same H H5 := fun c o e => k5 _ _ (S4 _ _ e) fun z => by rw [z, slN] at e; cases e
  obtain ⟨⟨adx, a1⟩, a2, ts, a3, a4⟩ := hA5
  refine ⟨_, rfl, ak, T.C_Answers, adx, _, _, rfl, a1, T.cl_Answers, T.nA_Answers_asks, ansF_look2 .., sl, _, rfl, SqL.of a3, fun sa sa0 => ?_⟩
  have s6 := same_new (o := .tup ts) sa0
  refine ⟨_, rfl, by show 2 ≤ _; omega, fun tt tt0 => ?_⟩
  have s7 := s6.trans (same_new (o := .tup [.ref sa, .ref t]) tt0)
  obtain ⟨rt', e1, e2⟩ := hH
  exact k _ tt asks h hrun (S5.trans s7) ⟨sa, t, ts, upd_same, same_new tt0 _ _ upd_same, a4.map fun u x _ r => s7 _ _ r, rt', s7 _ _ e1, s7 _ _ e2⟩
end
end My

/-! JH -/
namespace My
open PySem L2
local macro_rules | `(tactic| walk_at "side") => `(tactic| first | with_reducible rfl | assumption | rfl | decide | omega | exact cpow1 (by omega) (by omega) | exact cdiv (by omega) (by omega) | exact two_pos _ | exact SqL.of (by assumption) | exact SqT.of (by assumption) | exact TyX.base (TyOf.int _) | exact TyX.base (TyOf.bl _) | exact TyX.base TyOf.non | exact scal_opt _ _ | exact k_ii | exact k_bi | exact k_ni | exact k_ib | exact k_bb | exact TyX.base (TyOf.lst (by assumption)) | exact k_ll | exact k_lt)
local macro_rules | `(tactic| walk_at "p") => `(tactic| repeat (first | refine And.intro (by walk_at "side") ?_ | apply Exists.intro | refine iteN (by assumption) ?_ | refine iteP (by assumption) ?_ | refine iteN (by decide) ?_ | refine iteP (by decide) ?_))

def rgOf : Ln → Option Rg | .get a => some a | .put a _ => some a | _ => none
def rgKey : Rg → Key | .l c => .inr (sg c) | .n j => .inl (j : Nat)
def rgLook (lv : Nat → Int) : Rg → Option V | .l c => some (.int (lv c)) | .n _ => none
def touchL (ls : List Ln) : List Rg := ls.filterMap rgOf
def touchK (lv : Nat → Int) (as : List Rg) : List (Key × V) := as.foldl (fun acc a => putK acc (.inl (rgN lv a)) (.bl true)) []
theorem touchK_snoc (lv : Nat → Int) (as : List Rg) (a : Rg) : touchK lv (as ++ [a]) = putK (touchK lv as) (.inl (rgN lv a)) (.bl true) := by unfold touchK; rw [List.foldl_append]; rfl
theorem putK_in {kvs : List (Key × V)} {k : Key} {v : V} (h : k ∈ kvs.map (·.1)) : (putK kvs k v).map (·.1) = kvs.map (·.1) := by
  unfold putK
  rw [if_pos]
  · rw [List.map_map]
    refine List.map_congr_left fun x hx => ?_
    show (if x.1 = k then (x.1, v) else x).1 = x.1
    split <;> rfl
  · obtain ⟨x, hx, e⟩ := List.mem_map.mp h
    exact List.any_eq_true.mpr ⟨x, hx, decide_eq_true e⟩
theorem putK_out {kvs : List (Key × V)} {k : Key} {v : V} (h : ¬ k ∈ kvs.map (·.1)) : (putK kvs k v).map (·.1) = kvs.map (·.1) ++ [k] := by
  unfold putK
  rw [if_neg]
  · rw [List.map_append]; rfl
  · intro z
    obtain ⟨x, hx, e⟩ := List.any_eq_true.mp z
    exact h (List.mem_map.mpr ⟨x, hx, of_decide_eq_true e⟩)
/-- the registers named, each once -/
theorem fold_keys (lv : Nat → Int) : ∀ (as : List Rg) (acc : List (Key × V)) (k0 : List Int), acc.map (·.1) = k0.map Sum.inl →
    ∃ ks : List Int, (as.foldl (fun acc a => putK acc (.inl (rgN lv a)) (V.bl true)) acc).map (·.1) = ks.map Sum.inl ∧ (∀ x, x ∈ ks ↔ x ∈ k0 ∨ ∃ a ∈ as, rgN lv a = x) ∧ ks.length ≤ k0.length + as.length
  | [], acc, k0, h => ⟨k0, h, fun x => ⟨.inl, fun z => z.elim id fun ⟨a, ha, _⟩ => by cases ha⟩, Nat.le_refl _⟩
  | a :: r, acc, k0, h => by
    by_cases hm : rgN lv a ∈ k0
    · have e : (putK acc (.inl (rgN lv a)) (V.bl true)).map (·.1) = k0.map Sum.inl := by rw [putK_in (by rw [h]; exact List.mem_map.mpr ⟨_, hm, rfl⟩), h]
      obtain ⟨ks, g1, g2, g3⟩ := fold_keys lv r _ k0 e
      refine ⟨ks, g1, fun x => ?_, by simp; omega⟩
      rw [g2]
      constructor
      · rintro (h | ⟨b, hb, e'⟩)
        · exact .inl h
        · exact .inr ⟨b, List.mem_cons_of_mem _ hb, e'⟩
      · rintro (h | ⟨b, hb, e'⟩)
        · exact .inl h
        · rcases List.mem_cons.mp hb with rfl | hb
          · exact .inl (e' ▸ hm)
          · exact .inr ⟨b, hb, e'⟩
    · have e : (putK acc (.inl (rgN lv a)) (V.bl true)).map (·.1) = (k0 ++ [rgN lv a]).map Sum.inl := by
        rw [putK_out, h, List.map_append]
        · rfl
        · rw [h]
          intro z
          obtain ⟨y, hy, e⟩ := List.mem_map.mp z
          exact hm (Sum.inl.inj e ▸ hy)
      obtain ⟨ks, g1, g2, g3⟩ := fold_keys lv r _ _ e
      refine ⟨ks, g1, fun x => ?_, by simp at g3 ⊢; omega⟩
      rw [g2, List.mem_append]
      constructor
      · rintro ((h | h) | ⟨b, hb, e'⟩)
        · exact .inl h
        · exact .inr ⟨a, List.mem_cons_self, (List.mem_singleton.mp h).symm⟩
        · exact .inr ⟨b, List.mem_cons_of_mem _ hb, e'⟩
      · rintro (h | ⟨b, hb, e'⟩)
        · exact .inl (.inl h)
        · rcases List.mem_cons.mp hb with rfl | hb
          · exact .inl (.inr (List.mem_singleton.mpr e'.symm))
          · exact .inr ⟨b, hb, e'⟩
theorem touchK_keys (lv : Nat → Int) (as : List Rg) : ∃ ks : List Int, (touchK lv as).map (·.1) = ks.map Sum.inl ∧ (∀ x, x ∈ ks ↔ ∃ a ∈ as, rgN lv a = x) ∧ ks.length ≤ as.length := by
  obtain ⟨ks, g1, g2, g3⟩ := fold_keys lv as [] [] rfl
  refine ⟨ks, g1, fun x => ?_, by simpa using g3⟩
  rw [g2]
  exact ⟨fun h => h.elim (fun z => by cases z) id, .inr⟩
/-- the numbers of the registers named, ascending -/
def NamedL (lv : Nat → Int) (ls : List Ln) (ys : List Int) : Prop := ∃ ks : List Int, (touchK lv (touchL ls)).map (·.1) = ks.map Sum.inl ∧ ys.Perm ks ∧ ys.Pairwise (· ≤ ·)
theorem sorted_eq : ∀ {xs ys : List Int}, xs.Perm ys → xs.Pairwise (· ≤ ·) → ys.Pairwise (· ≤ ·) → xs = ys := fun h a b => List.Perm.eq_of_pairwise (fun x y _ _ h1 h2 => Int.le_antisymm h1 h2) a b h
theorem NamedL.uniq {lv : Nat → Int} {ls : List Ln} {xs ys : List Int} (h : NamedL lv ls xs) (g : NamedL lv ls ys) : xs = ys := by
  obtain ⟨ks, a1, a2, a3⟩ := h
  obtain ⟨ks', b1, b2, b3⟩ := g
  have : ks = ks' := by
    have e := a1.symm.trans b1
    exact List.map_inj_right (fun _ _ h => Sum.inl.inj h) |>.mp e
  subst this
  exact sorted_eq (a2.trans b2.symm) a3 b3
theorem nm_gp (l : Ln) : decide (l.nm ∈ (["get", "put"] : List Str)) = (l.kd == 0 || l.kd == 16) :=
  eq_of_beq (nm_all (P := fun z k => decide (z ∈ (["get", "put"] : List Str)) == (k == 0 || k == 16)) (by decide +kernel) l)
theorem gp_some (l : Ln) (h : (l.kd == 0 || l.kd == 16) = true) : ∃ a, rgOf l = some a ∧ l.es[0]? = some a.v := by
  cases l with
  | get a => exact ⟨a, rfl, rfl⟩
  | put a i => exact ⟨a, rfl, rfl⟩
  | op o _ _ => cases o <;> cases h
  | _ => cases h
theorem gp_none (l : Ln) (h : (l.kd == 0 || l.kd == 16) = false) : rgOf l = none := by
  cases l with
  | get a => cases h
  | put a i => cases h
  | _ => rfl
theorem touchL_take {ls : List Ln} {i : Nat} {l : Ln} (h : ls[i]? = some l) : touchL (ls.take (i + 1)) = touchL (ls.take i) ++ (rgOf l).toList := by
  unfold touchL
  rw [List.take_succ, h, List.filterMap_append]
  cases e : rgOf l <;> simp [e]
theorem touchL_len (ls : List Ln) : (touchL ls).length ≤ ls.length := List.length_filterMap_le _ _
section
variable {P : Program} {w : World} {K : PySem.W.Frag} {mg : Str → Option Value} {base : Heap}
/-- what is no instruction of the book -/
def BadIns (T : Txt w K mg) (H : Hp) (v : V) (F : List FM) : Prop := plain4 v = true ∨ (∃ (q : Addr) (xs : List V), v = .ref q ∧ Row H q xs ∧ xs.length ≠ 2 ∧ xs.length ≤ 1000) ∨
  (∃ (q : Addr) (x y : V), v = .ref q ∧ Row H q [x, y] ∧ plain4 y = true) ∨
  ∃ (q nq : Addr) (x : V) (ns : List V), v = .ref q ∧ Row H q [x, .ref nq] ∧ Row H nq ns ∧ plain4 x = true ∧ (∀ y ∈ ns, plain4 y = true) ∧ ns.length ≤ 1000 ∧ ∀ f ∈ F, x = .str f.nm → fitL (lettersM (pls f.ps)) ns = false
/-- what named looks at of an instruction -/
def InsAtQ (T : Txt w K mg) (H : Hp) (b q nq : Addr) (f : FM) (ns : List Int) : Prop := H q = some (.tup [.str f.nm, .ref nq]) ∧ Row H nq (intsV ns) ∧ ns.length = (lettersM (pls f.ps)).length ∧ (∀ c, Rg.l c ∈ touchL f.ls → c ∈ (lettersM (pls f.ps)).map Prod.fst) ∧ f.ls.length ≤ 12
/-- the instruction's form, or a refusal -/
def insOf (T : Txt w K mg) (H : Hp) (b : Addr) (v : V) (Q : FM → Addr → Addr → List Int → Hp → Prop) (E : XK) : Prop := ∃ (F : List FM) (n r : Nat), BookAt T.C_Book T.C_Form H b n r F ∧ NamedAt T.C_Book H b F ∧ BookOk n r F ∧
  ((BadIns T H v F ∧ BadS T H E 0) ∨ ∃ (q nq : Addr) (f : FM) (ns : List Int), v = .ref q ∧ InsAt T H b q nq F n r f ns ∧ fitL (lettersM (pls f.ps)) (intsV ns) = true ∧ Q f q nq ns H)
def sp_named (T : Txt w K mg) : Sp := fun vs H Q E => ∃ (b : Addr) (v : V), vs = [.ref b, v] ∧ insOf T H b v (fun f q nq ns H => InsAtQ T H b q nq f ns ∧ ∀ H' t ys, Same H H' → H' t = some (.tup (intsV ys)) → NamedL (lvOf (lettersM (pls f.ps)) ns) f.ls ys → Q (.ref t) H') E
theorem sp_named_len {T : Txt w K mg} {vs H Q E} (h : sp_named T vs H Q E) : vs.length = 2 := by obtain ⟨_, _, rfl, _⟩ := h; rfl
theorem ok_named (T : Txt w K mg) : FnOk P w K mg base (L2.CX P w) 5 T.f_named T.fd_named ["book", "instruction"] (sp_named T) := by
  have G_form_of := ok_form_of (P := P) (w := w) (base := base) T; have G_letters_told := ok_letters_told (P := P) (w := w) (base := base) T; have G_BadSource_init := ok_BadSource_init (P := P) (w := w) (base := base) T
  refine T.F_named.okX sc_named (fun vs H Q E h => sp_named_len h) (fun cdv A outer s H vs Q E hr h => ?_)
  obtain ⟨b, v, rfl, h⟩ := h
  have sz : sizeLine = 16777216 := sizeLine_eq
  refine ⟨_, (pss_cons (ps_set (i := 2) sc_named.nd rfl (Or.inl rfl) (pe_call G_form_of hr rfl T.g_form_of T.F_form_of.kp T.b_form_of .nil (passes_call (takes_of rfl rfl rfl rfl) (fun _ _ _ _ h => h)) (pa_cons (pv 0) (pa_cons (pv 1) pa_nil))))
       (pss_cons (ps_set (i := 3) sc_named.nd rfl (Or.inr rfl) (pe_call G_letters_told (hr.mono (by decide)) rfl T.g_letters_told T.F_letters_told.kp T.b_letters_told .nil pass0 (pa_cons (pv 2) (pa_cons (pe_ix ix_tup (pv 1) pe_int (fun _ _ => rfl)) pa_nil))))
       (pss_cons (ps_setLc (i := 4) (own := [("line", 6)]) rfl sc_named.nd rfl rfl (sw_true rfl rfl rfl (by decide +kernel)) (pi_tup (pe_fldA (pv 2))) (blkOk_by (N := ["book", "instruction", "form", "told", "entries", "found", "line", "entry"]) (sc := defScope s_named) (by decide +kernel)) (fun _ _ _ _ _ => by (apply pg_tr; exact pg_name (i := 6) sc_named.nd rfl (Or.inl rfl); (try dsimp only [Cx.blk]) <;> exact rfl)) (fun _ _ _ _ _ => by (apply pts_tr; exact (pts_one (pt_cmpR op_in_seq (pe_ix ix_tup (pv 6) pe_int (fun _ _ => rfl)) (pe_tup (pa_cons pe_str (pa_cons pe_str pa_nil))) (by rfl))); (try dsimp only [Cx.blk]) <;> exact rfl)) (fun _ _ _ _ _ => by (apply pe_tr; exact (pe_ix ix_tup (pv 6) pe_int (fun _ _ => rfl)); (try dsimp only [Cx.blk]) <;> exact rfl)))
       (pss_cons (ps_setDc (i := 5) (own := [("entry", 7)]) rfl sc_named.nd rfl rfl (sw_trueD rfl rfl rfl (by decide +kernel)) (pi_list (pv 4)) (blkOk_by (N := ["book", "instruction", "form", "told", "entries", "found", "line", "entry"]) (sc := defScope s_named) (by decide +kernel)) (fun _ _ _ _ _ => by (apply pg_tr; exact pg_name (i := 7) sc_named.nd rfl (Or.inl rfl); (try dsimp only [Cx.blk]) <;> exact rfl)) (fun _ _ _ _ _ => by (apply pts_tr; exact pts_nil; (try dsimp only [Cx.blk]) <;> exact rfl)) (fun _ _ _ _ _ => by (apply pe_tr; exact (pe_dget2 (hu_of hr) (pv 3) (pv 7) (pv 7) ⟨rfl, rfl, rfl, rfl⟩); (try dsimp only [Cx.blk]) <;> exact rfl)) (fun _ _ _ _ _ => by (apply pe_tr; exact pe_bl; (try dsimp only [Cx.blk]) <;> exact rfl)))
       (pss_one (ps_ret (pe_callTy call_tupleL (by rfl) T.n_tuple (by decide +kernel) (pa_cons (pe_callB (call_sortedDI rfl) (by rfl) T.n_sorted (by decide +kernel) (pa_cons (pv 5) pa_nil)) pa_nil)))))))), ?_⟩
  obtain ⟨F, n, r, hB, hN, hK, h⟩ := h
  refine ⟨_, rfl, _, rfl, b, v, F, n, r, rfl, hB, hN, hK.let64, ?_⟩
  rcases h with ⟨h, bad⟩ | ⟨q, nq, f, ns, rfl, hI, hfit, ⟨q1, q2, q3, q4, q5⟩, k⟩
  · rcases h with h | ⟨q, xs, e, h1, h2, h3⟩ | ⟨q, x, y, e, h1, h2⟩ | ⟨q, nq, x, ns, e, h1, h2, h3, h4, h5, h6⟩
    · exact .inl ⟨h, bad⟩
    · exact .inr (.inl ⟨q, xs, e, h1, h2, h3, bad⟩)
    · exact .inr (.inr (.inl ⟨q, x, y, e, h1, h2, bad⟩))
    · exact .inr (.inr (.inr ⟨q, nq, x, ns, e, h1, h2, h3, h4, h5, fun _ => bad, fun i f hf e => ⟨fun z => (by rw [h6 f (List.mem_of_getElem? hf) e] at z; cases z), fun _ => bad⟩⟩))
  obtain ⟨fi, hfi⟩ := hI.fi
  have hl := hI.len
  have L5 := lettersM_le (pls f.ps)
  refine .inr (.inr (.inr ⟨q, nq, .str f.nm, intsV ns, rfl, .inr hI.q, hI.nq, rfl, (fun y hy => by obtain ⟨z, _, rfl⟩ := List.mem_map.mp hy; rfl), by rw [intsV_len]; omega, fun no => absurd rfl (no f (List.mem_of_getElem? hfi)), fun i f' hf' e => ?_⟩))
  have ef : f' = f := hK.same hf' hfi (V.str.inj e).symm
  subst ef
  refine ⟨fun _ H1 u s1 hU => ?_, fun z => by rw [hfit] at z; cases z⟩
  refine ⟨_, rfl, _, rfl, q, _, _, _, rfl, rfl, SqT.of (s1 _ _ q1), rfl, u, nq, f', ns, rfl, hU, q2.news s1, q3, fun H2 dl s2 dl0 hdl => ?_⟩
  obtain ⟨fdx, fpt, fln, flt, ffx, hfo, hfpt, ⟨lus, hfln, hfR⟩, hflt, hffx⟩ := hU.news s2
  have lul := hfR.1
  have s12 := s1.trans s2
  refine ⟨_, rfl, u, T.C_Form, fdx, _, _, rfl, hfo, T.cl_Form, T.nA_Form_lines, look_form_lines .., fln, rfl, ⟨_, SqT.of hfln⟩, fun D hD => ?_⟩
  refine lc_it (walk_tup (xs := lus)) (fun i H3 => Same H2 H3 ∧ H3 D = some (.lst ((touchL (f'.ls.take i)).map Rg.v))) ⟨same_new hD, upd_same⟩ (fun i H3 _ ⟨s3, _⟩ => SqT.of (s3 _ _ hfln)) ?_ ?_
  · rintro i x H3 H4 hi ⟨s3, h3⟩ ⟨rfl, hx⟩
    obtain ⟨lu, l, hl, hu, hr⟩ := hfR.at (i := i) (by omega)
    have hux := hu.symm.trans hx
    cases hux
    have hr3 := s3 _ _ hr
    have tl := touchL_len (f'.ls.take i)
    rw [List.length_take] at tl
    refine ⟨rfl, _, rfl, lu, _, _, _, rfl, rfl, SqT.of hr3, ln_at0 l, by show 2 ≤ _; omega, fun g g0 => ?_⟩
    have s5 := same_new (o := .tup [.str "get", .str "put"]) g0
    refine ⟨g, (["get", "put"] : List Str).map V.str, rfl, .inr (SqT.of upd_same), rfl, flatStrs _, _, rfl, ?_⟩
    rw [inStrs, nm_gp, touchL_take hl]
    refine iteB (fun (c : (l.kd == 0 || l.kd == 16) = true) => ?_) fun (c : (l.kd == 0 || l.kd == 16) = false) => ?_
    · obtain ⟨a, ea, hea⟩ := gp_some l c
      rw [ea]
      refine ⟨_, rfl, lu, _, _, _, rfl, rfl, SqT.of (s5 _ _ hr3), ln_at1 hea, _, s5 _ _ h3, by rw [List.length_map]; omega, fun b' o e => ?_, ?_⟩
      · have bD : b' ≠ D := fun z => by rw [z, hD] at e; cases e
        rw [upd_ne bD]; exact s5 _ _ (s3 _ _ e)
      · rw [upd_same, List.map_append]; rfl
    · rw [gp_none l c]
      refine ⟨s3.trans s5, ?_⟩
      rw [s5 _ _ h3]
      show _ = some (HO.lst ((touchL (f'.ls.take i) ++ []).map Rg.v))
      rw [List.append_nil]
  rintro H3 ⟨s3, h3⟩
  rw [List.take_of_length_le (by omega)] at h3
  have hdl3 := s3 _ _ hdl
  have tl := touchL_len f'.ls
  refine ⟨_, rfl, D, rfl, ⟨_, SqL.of h3⟩, fun D2 hD2 => ?_⟩
  refine dc_it (walk_list (xs := (touchL f'.ls).map Rg.v)) (fun i H4 => Same H3 H4 ∧ H4 D2 = some (.dK (touchK (lvOf (lettersM (pls f'.ps)) ns) ((touchL f'.ls).take i)))) ⟨same_new hD2, upd_same⟩ (fun i H4 _ ⟨s4, _⟩ => SqL.of (s4 _ _ h3)) ?_ ?_
  · rintro i x H4 H5 hi ⟨s4, h4⟩ ⟨rfl, hx⟩
    rw [List.getElem?_map] at hx
    obtain ⟨a, ha, rfl⟩ : ∃ a, (touchL f'.ls)[i]? = some a ∧ x = a.v := by
      cases h : (touchL f'.ls)[i]? with
      | none => rw [h] at hx; cases hx
      | some z => rw [h] at hx; exact ⟨z, rfl, (Option.some.inj hx).symm⟩
    have hdl4 := s4 _ _ hdl3
    have etk : (touchL f'.ls).take (i + 1) = (touchL f'.ls).take i ++ [a] := by rw [List.take_succ, ha]; rfl
    have hkey : valV (lkv (lettersM (pls f'.ps)) ns) (rgKey a) = rgLook (lvOf (lettersM (pls f'.ps)) ns) a := by
      cases a with
      | l c => exact lkv_val (q4 c (List.mem_of_getElem? ha)) q3
      | n j => exact lkv_int _ _ _
    have hget : (rgLook (lvOf (lettersM (pls f'.ps)) ns) a).getD a.v = V.int (rgN (lvOf (lettersM (pls f'.ps)) ns) a) := by
      cases a <;> rfl
    have hkv : a.v = kV (rgKey a) := by cases a <;> rfl
    refine ⟨rfl, _, rfl, dl, rfl, .inl ⟨_, .inl hdl4⟩, _, rfl, _, rfl, _, .inl ⟨_, rgKey a, Rd.of hdl4, hkv, hkey.symm⟩, ?_⟩
    rw [hget]
    obtain ⟨ks, k1, k2, k3⟩ := touchK_keys (lvOf (lettersM (pls f'.ps)) ns) ((touchL f'.ls).take i)
    refine ⟨_, .inl (rgN (lvOf (lettersM (pls f'.ps)) ns) a), rfl, h4, ?_, fun b' o e => ?_, ?_⟩
    · have := congrArg List.length k1
      rw [List.length_map, List.length_map] at this
      have t2 := List.length_take_le' i (touchL f'.ls)
      omega
    · have bD : b' ≠ D2 := fun z => by rw [z, hD2] at e; cases e
      rw [upd_ne bD]; exact s4 _ _ e
    · rw [upd_same, etk, touchK_snoc]
  rintro H4 ⟨s4, h4⟩
  rw [List.take_of_length_le (by rw [List.length_map]; exact Nat.le_refl _)] at h4
  obtain ⟨ks, k1, k2, k3⟩ := touchK_keys (lvOf (lettersM (pls f'.ps)) ns) (touchL f'.ls)
  refine ⟨_, rfl, D2, _, ks, rfl, Rd.of h4, k1, by omega, fun ys p hpm hps p0 => ?_⟩
  refine ⟨p, _, rfl, SqL.of upd_same, fun t t0 => ?_⟩
  exact k _ t ys ((((s12.trans s3).trans s4).trans (same_new p0)).trans (same_new t0)) upd_same ⟨ks, k1, hpm, hps⟩
end
end My

/-! LA -/
namespace My
open PySem L2
local macro_rules | `(tactic| walk_at "side") => `(tactic| first | with_reducible rfl | assumption | rfl | decide | omega | exact cpow1 (by omega) (by omega) | exact cdiv (by omega) (by omega) | exact two_pos _ | exact SqL.of (by assumption) | exact SqT.of (by assumption) | exact TyX.base (TyOf.int _) | exact TyX.base (TyOf.bl _) | exact TyX.base TyOf.non | exact scal_opt _ _ | exact k_ii | exact k_bi | exact k_ni | exact k_ib | exact k_bb | exact TyX.base (TyOf.lst (by assumption)) | exact k_ll | exact k_lt)
local macro_rules | `(tactic| walk_at "p") => `(tactic| repeat (first | refine And.intro (by walk_at "side") ?_ | apply Exists.intro | refine iteN (by assumption) ?_ | refine iteP (by assumption) ?_ | refine iteN (by decide) ?_ | refine iteP (by decide) ?_))

/-- the draws at p, their numbers at q -/
def Dr (H : Hp) (p q : Addr) : Prop := ∃ (ns : List Int) (k : Nat), H p = some (.lst [.int k, .ref q]) ∧ H q = some (.lst (ns.map V.int)) ∧ ∀ x ∈ ns, 0 ≤ x
theorem Dr.ne {H : Hp} {p q : Addr} (h : Dr H p q) (hpq : p ≠ q) : True := trivial
theorem Dr.keep {S : Addr → Prop} {H H' : Hp} {p q : Addr} (h : Dr H p q) (k : Keep S H H') (hp : ¬ S p) (hq : ¬ S q) : Dr H' p q := by
  obtain ⟨ns, j, h1, h2, h3⟩ := h
  exact ⟨ns, j, k _ _ h1 hp, k _ _ h2 hq, h3⟩
theorem Dr.news {H H' : Hp} {p q : Addr} (h : Dr H p q) (s : Same H H') : Dr H' p q := h.keep (S := fun _ => False) (fun b o e _ => s b o e) id id
section
variable {P : Program} {w : World} {K : PySem.W.Frag} {mg : Str → Option Value} {base : Heap}
def sp_law_take (T : Txt w K mg) : Sp := fun vs H Q _ => ∃ (p q : Addr) (m : Int), vs = [.ref p, .int m] ∧ Dr H p q ∧ p ≠ q ∧ 0 < m ∧ ∀ (H' : Hp) (v : Int), 0 ≤ v → v < m → Dr H' p q → (∀ b o, H b = some o → b ≠ p → H' b = some o) → Q (.int v) H'
theorem sp_law_take_len {T : Txt w K mg} {vs H Q E} (h : sp_law_take T vs H Q E) : vs.length = 2 := by obtain ⟨_, _, _, rfl, _⟩ := h; rfl
theorem ok_law_take (T : Txt w K mg) : FnOk P w K mg base CX0 1 T.f_law_take T.fd_law_take ["_law_draws_here", "_law_many"] (sp_law_take T) := by
  skip
  refine T.F_law_take.ok sc_law_take (fun vs H Q E h => sp_law_take_len h) (fun cdv A outer s H vs Q E hr h => ?_)
  obtain ⟨p, q, m, rfl, ⟨ns, j, h1, h2, h3⟩, hpq, hm, k⟩ := h
  refine ⟨_, (pss_cons (ps_set (i := 2) sc_law_take.nd rfl (Or.inl rfl) (pe_ix ix_list (pv 0) pe_int (fun _ _ => rfl)))
       (pss_cons (ps_if (pt_cmpR op_ge (pv 2) (pe_callB call_lenL (by rfl) T.n_len (by decide +kernel) (pa_cons (pe_ix ix_list (pv 0) pe_int (fun _ _ => rfl)) pa_nil)) (nomark _))
        (pss_one (ps_ret pe_int))
        pss_nil)
       (pss_cons (ps_asg (pe_op op_add (pv 2) pe_int) (pg_sub (pv 0) pe_int set_list))
       (pss_one (ps_ret (pe_op op_mod (pe_callTy call_intI (by rfl) T.n_int (by decide +kernel) (pa_cons (pe_ix ix_list (pe_ix ix_list (pv 0) pe_int (fun _ _ => rfl)) (pv 2) (fun _ _ => rfl)) pa_nil)) (pv 1))))))), ?_⟩
  refine ⟨_, rfl, p, _, 0, _, rfl, rfl, SqL.of h1, rfl, ?_⟩
  refine ⟨_, rfl, _, rfl, p, _, 1, _, rfl, rfl, SqL.of h1, rfl, q, _, rfl, SqL.of h2, _, _, rfl, rfl, _, rfl, ?_⟩
  by_cases hj : ns.length ≤ j
  · exact iteP (dT (by rw [List.length_map]; omega)) (k H 0 (by omega) hm ⟨ns, j, h1, h2, h3⟩ fun b o e _ => e)
  refine iteN (dF (by rw [List.length_map]; omega)) ?_
  refine ⟨_, rfl, _, _, rfl, rfl, _, rfl, p, _, 0, 0, rfl, rfl, h1, rfl, ?_⟩
  have h1' : upd H p (.lst [.int ((j : Int) + 1), .ref q]) p = some (.lst [.int ((j : Int) + 1), .ref q]) := upd_same
  have h2' : upd H p (.lst [.int ((j : Int) + 1), .ref q]) q = some (.lst (ns.map V.int)) := by rw [upd_ne hpq.symm]; exact h2
  obtain ⟨x, hx⟩ : ∃ x, ns[j]? = some x := ⟨_, List.getElem?_eq_getElem (by omega)⟩
  refine ⟨_, rfl, p, _, 1, _, rfl, rfl, SqL.of h1', rfl, _, rfl, q, _, _, .int x, rfl, rfl, SqL.of h2', at_of rfl (by rw [List.getElem?_map, hx]; rfl), x, rfl, _, rfl, _, _, rfl, rfl, hm, ?_⟩
  refine k _ (x % m) (Int.emod_nonneg _ (by omega)) (Int.emod_lt_of_pos _ hm) ⟨ns, j + 1, ?_, h2', h3⟩ fun b o e hb => by rw [upd_ne hb]; exact e
  exact upd_same.trans rfl
def sp_law_word (T : Txt w K mg) : Sp := fun vs H Q _ => ∃ (p q : Addr) (n : Nat), vs = [.ref p, .int n] ∧ Dr H p q ∧ p ≠ q ∧ 2 ≤ n ∧ n ≤ 12 ∧ ∀ (H' : Hp) (v : Int), 0 ≤ v → v < 2 ^ n → Dr H' p q → (∀ b o, H b = some o → b ≠ p → H' b = some o) → Q (.int v) H'
theorem sp_law_word_len {T : Txt w K mg} {vs H Q E} (h : sp_law_word T vs H Q E) : vs.length = 2 := by obtain ⟨_, _, _, rfl, _⟩ := h; rfl
theorem pow_posK (n : Nat) : (0 : Int) < 2 ^ n := Int.pow_pos (by decide)
theorem shl_mod {x : Int} {n : Nat} {C : Int → Prop} (h : ∀ v, 0 ≤ v → v < 2 ^ n → C v) : C (x % (1 * 2 ^ (n : Int).toNat)) := by
  rw [Int.one_mul, Int.toNat_natCast]
  exact h _ (Int.emod_nonneg _ (by have := pow_posK n; omega)) (Int.emod_lt_of_pos _ (pow_posK n))
theorem ok_law_word (T : Txt w K mg) : FnOk P w K mg base CX0 2 T.f_law_word T.fd_law_word ["_law_draws_here", "_law_width"] (sp_law_word T) := by
  have G_law_take := ok_law_take (P := P) (w := w) (base := base) T
  refine T.F_law_word.ok sc_law_word (fun vs H Q E h => sp_law_word_len h) (fun cdv A outer s H vs Q E hr h => ?_)
  obtain ⟨p, q, n, rfl, hd, hpq, n2, hn, k⟩ := h
  refine ⟨_, (pss_cons (ps_set (i := 2) sc_law_word.nd rfl (Or.inl rfl) (pe_call G_law_take hr rfl T.g_law_take T.F_law_take.kp T.b_law_take .nil pass0 (pa_cons (pv 0) (pa_cons pe_int pa_nil))))
       (pss_cons (ps_set (i := 3) sc_law_word.nd rfl (Or.inl rfl) (pe_call G_law_take hr rfl T.g_law_take T.F_law_take.kp T.b_law_take .nil pass0 (pa_cons (pv 0) (pa_cons pe_int pa_nil))))
       (pss_cons (ps_set (i := 4) sc_law_word.nd rfl (Or.inl rfl) (pe_call G_law_take hr rfl T.g_law_take T.F_law_take.kp T.b_law_take .nil pass0 (pa_cons (pv 0) (pa_cons pe_int pa_nil))))
       (pss_cons (ps_if (pt_cmpR op_eq (pv 4) pe_int (nomark _))
        (pss_one (ps_ret (pe_op op_mod (pe_callTy call_intI (by rfl) T.n_int (by decide +kernel) (pa_cons (pe_op op_sub (pe_op op_sub pe_int pe_int) (pe_op op_mod (pv 3) pe_int)) pa_nil)) (pe_op op_shl pe_int (pv 1)))))
        pss_nil)
       (pss_cons (ps_if (pt_cmpR op_eq (pv 4) pe_int (nomark _))
        (pss_one (ps_ret (pe_op op_mod (pv 3) pe_int)))
        pss_nil)
       (pss_one (ps_ret (pe_op op_mod (pe_callTy call_intI (by rfl) T.n_int (by decide +kernel) (pa_cons (pe_op op_add (pe_op op_mul (pv 2) pe_int) (pv 3)) pa_nil)) (pe_op op_shl pe_int (pv 1)))))))))), ?_⟩
  refine ⟨_, rfl, p, q, _, rfl, hd, hpq, by decide, fun H1 x x0 x1 d1 k1 => ?_⟩
  refine ⟨_, rfl, p, q, _, rfl, d1, hpq, by decide, fun H2 y y0 y1 d2 k2 => ?_⟩
  refine ⟨_, rfl, p, q, _, rfl, d2, hpq, by decide, fun H3 z z0 z1 d3 k3 => ?_⟩
  have kk : ∀ v, 0 ≤ v → v < 2 ^ n → Q (.int v) H3 := fun v v0 v1 => k H3 v v0 v1 d3 fun b o e hb => k3 _ _ (k2 _ _ (k1 _ _ e hb) hb) hb
  refine ⟨_, rfl, rfl, _, rfl, ite2 (fun _ => ?_) fun _ => ?_⟩
  · refine ⟨_, _, rfl, rfl, _, rfl, _, _, rfl, rfl, by show (0 : Int) < 2; decide, _, _, rfl, rfl, _, rfl, _, rfl, _, _, rfl, rfl, cpow1 (by omega) (by omega), _, _, rfl, rfl, two_pos _, ?_⟩
    exact shl_mod (C := fun v => Q (.int v) H3) kk
  refine ⟨_, rfl, rfl, _, rfl, ite2 (fun _ => ?_) fun _ => ?_⟩
  · refine ⟨_, rfl, _, _, rfl, rfl, by show (0 : Int) < 3; decide, ?_⟩
    have m3 : 0 ≤ y % 3 ∧ y % 3 < 3 := ⟨Int.emod_nonneg _ (by decide), Int.emod_lt_of_pos _ (by decide)⟩
    have p4 : (2 : Int) ^ 2 ≤ 2 ^ n := by
      have : (2 : Nat) ^ 2 ≤ 2 ^ n := Nat.pow_le_pow_right (by decide) n2
      have e : ((2 ^ n : Nat) : Int) = 2 ^ n := Int.natCast_pow 2 n
      omega
    exact kk _ m3.1 (by omega)
  · refine ⟨_, rfl, _, _, rfl, rfl, by right; decide, _, rfl, _, _, rfl, rfl, _, rfl, _, rfl, _, _, rfl, rfl, cpow1 (by omega) (by omega), _, _, rfl, rfl, two_pos _, ?_⟩
    exact shl_mod (C := fun v => Q (.int v) H3) kk
def sp_law_draws (T : Txt w K mg) : Sp := fun vs H Q _ => ∃ (a : Addr) (xs : List Int), vs = [.ref a] ∧ SqL K H a (xs.map V.int) ∧ xs.length ≤ 63 ∧ ∀ (H' : Hp) (p q : Addr), Same H H' → H p = none → H q = none → p ≠ q → Dr H' p q → Q (.ref p) H'
theorem sp_law_draws_len {T : Txt w K mg} {vs H Q E} (h : sp_law_draws T vs H Q E) : vs.length = 1 := by obtain ⟨_, _, rfl, _⟩ := h; rfl
/-- numbers so far -/
def NumsAt (H0 H : Hp) (N : Addr) (m : Nat) : Prop := Same H0 H ∧ ∃ ns : List Int, H N = some (.lst (ns.map V.int)) ∧ ns.length ≤ m ∧ ∀ x ∈ ns, 0 ≤ x
theorem NumsAt.more {H0 H : Hp} {N : Addr} {m m' : Nat} (h : NumsAt H0 H N m) (l : m ≤ m') : NumsAt H0 H N m' := by
  obtain ⟨s, ns, h1, h2, h3⟩ := h
  exact ⟨s, ns, h1, by omega, h3⟩
theorem NumsAt.push {H0 H : Hp} {N : Addr} {m : Nat} {x : Int} (h0 : H0 N = none) (h : NumsAt H0 H N m) (hx : 0 ≤ x) : ∃ xs : List V, H N = some (.lst xs) ∧ xs.length ≤ m ∧ NumsAt H0 (upd H N (.lst (xs ++ [.int x]))) N (m + 1) := by
  obtain ⟨s, ns, h1, h2, h3⟩ := h
  refine ⟨_, h1, by rw [List.length_map]; exact h2, fun b o e => ?_, ns ++ [x], by rw [upd_same, List.map_append]; rfl, by simp; omega, fun z hz => ?_⟩
  · rw [upd_ne (ne_of_none e h0)]; exact s _ _ e
  · rcases List.mem_append.mp hz with hz | hz
    · exact h3 z hz
    · simp at hz; subst hz; exact hx
theorem ok_law_draws (T : Txt w K mg) : FnOk P w K mg base CX0 1 T.f_law_draws T.fd_law_draws ["_law_script"] (sp_law_draws T) := by
  skip
  refine T.F_law_draws.ok sc_law_draws (fun vs H Q E h => sp_law_draws_len h) (fun cdv A outer s H vs Q E hr h => ?_)
  obtain ⟨a, xs, rfl, hx, h63, k⟩ := h
  refine ⟨_, (pss_cons (ps_set (i := 1) sc_law_draws.nd rfl (Or.inl rfl) (pe_lst pa_nil))
       (pss_cons (ps_for PassesOwn.never rfl (pi_range1 (by rfl) T.n_range (pa_cons (pe_callB (call_min2 rfl) (by rfl) T.n_min (by decide +kernel) (pa_cons (pe_callB call_lenL (by rfl) T.n_len (by decide +kernel) (pa_cons (pv 0) pa_nil)) (pa_cons pe_int pa_nil))) pa_nil)) (pg_name (i := 2) sc_law_draws.nd rfl (Or.inl rfl))
        (pss_cons (ps_set (i := 3) sc_law_draws.nd rfl (Or.inl rfl) (pe_callTy call_intI (by rfl) T.n_int (by decide +kernel) (pa_cons (pe_ix ix_list (pv 0) (pv 2) (fun _ _ => rfl)) pa_nil)))
       (pss_cons (ps_set (i := 4) sc_law_draws.nd rfl (Or.inl rfl) pe_int)
       (Evl.pss_cut (ps_if (pt_cmpR op_lt (pv 3) pe_int (nomark _))
        (pss_cons (ps_set (i := 4) sc_law_draws.nd rfl (Or.inl rfl) pe_int)
       (pss_one (ps_set (i := 3) sc_law_draws.nd rfl (Or.inl rfl) (pe_un un_neg (pv 3)))))
        pss_nil)
       (pss_one (ps_if (pt_cmpR op_ge (pv 3) (pe_op op_pow pe_int pe_int) (nomark _))
        (pss_one (ps_for PassesOwn.never rfl (pi_range1 (by rfl) T.n_range (pa_cons pe_int pa_nil)) (pg_name (i := 5) sc_law_draws.nd rfl (Or.inl rfl))
        (pss_one (ps_if (pt_cmpR op_gt (pv 3) pe_int (nomark _))
        (pss_cons (ps_expr (pe_bm PySem.F.plainAttrs_list PySem.F.slot_list_append PySem.F.type_list_append mt_append (pv 1) (pa_cons (pe_op op_mod (pe_callTy call_intI (by rfl) T.n_int (by decide +kernel) (pa_cons (pv 3) pa_nil)) pe_int) pa_nil)))
       (pss_one (ps_set (i := 3) sc_law_draws.nd rfl (Or.inl rfl) (pe_op op_fdiv (pv 3) pe_int))))
        pss_nil))))
        (pss_cons (ps_set (i := 6) sc_law_draws.nd rfl (Or.inl rfl) (pe_op op_mod (pe_callTy call_intI (by rfl) T.n_int (by decide +kernel) (pa_cons (pe_op op_add (pe_op op_add (pe_op op_add (pe_op op_mul (pv 3) pe_int) (pe_op op_mul (pv 4) pe_int)) (pe_op op_mul (pv 2) pe_int)) pe_int) pa_nil)) pe_int))
       (pss_one (ps_for PassesOwn.never rfl (pi_range1 (by rfl) T.n_range (pa_cons pe_int pa_nil)) (pg_name (i := 5) sc_law_draws.nd rfl (Or.inl rfl))
        (pss_cons (ps_set (i := 6) sc_law_draws.nd rfl (Or.inl rfl) (pe_op op_mod (pe_callTy call_intI (by rfl) T.n_int (by decide +kernel) (pa_cons (pe_op op_add (pe_op op_add (pe_op op_mul (pv 6) pe_int) (pe_op op_fdiv (pv 6) pe_int)) (pv 5)) pa_nil)) pe_int))
       (pss_one (ps_expr (pe_bm PySem.F.plainAttrs_list PySem.F.slot_list_append PySem.F.type_list_append mt_append (pv 1) (pa_cons (pe_op op_fdiv (pv 6) pe_int) pa_nil))))))))))))))
       (pss_one (ps_ret (pe_lst (pa_cons pe_int (pa_cons (pv 1) pa_nil))))))), ?_⟩
  have sz : sizeLine = 16777216 := sizeLine_eq
  refine ⟨Nat.zero_le _, fun N hN => ?_⟩
  have sN := same_new (o := .lst []) hN
  have emin : (if (63 : Int) < ((xs.map V.int).length : Nat) then (63 : Int) else ((xs.map V.int).length : Nat)) = (xs.length : Nat) := by
    rw [List.length_map, if_neg (by omega)]
  refine ⟨_, rfl, a, _, rfl, sN.seq hx, _, _, rfl, ?_⟩
  rw [emin]
  refine ⟨_, rfl, by omega, by omega, ?_⟩
  refine for_range (lo := 0) (n := ((xs.length : Nat) : Int).toNat) (fun i σ' H1 => ∃ v2 v3 v4 v5 v6 : Option V, σ' = [some (.ref a), some (.ref N), v2, v3, v4, v5, v6] ∧ NumsAt H H1 N (45 * i)) ⟨none, none, none, none, none, rfl, sN, [], upd_same, Nat.le_refl _, by simp⟩ ?_ ?_
  · rintro i σ' H1 hi ⟨v2, v3, v4, v5, v6, rfl, hn⟩
    rw [Int.toNat_natCast] at hi
    obtain ⟨x, hxi⟩ : ∃ x, xs[i]? = some x := ⟨_, List.getElem?_eq_getElem hi⟩
    refine ⟨_, rfl, _, rfl, a, _, _, .int x, rfl, rfl, hn.1.seq hx, at_of (j := i) (by omega) (by rw [List.getElem?_map, hxi]; rfl), x, rfl, ?_⟩
    -- the sign
    refine ⟨fun σ' H2 => H2 = H1 ∧ ∃ c sg : Int, σ' = [some (.ref a), some (.ref N), some (.int (0 + i)), some (.int c), some (.int sg), v5, v6] ∧ 0 ≤ c ∧ 0 ≤ sg ∧ sg ≤ 1, ?_, ?_⟩
    · refine ⟨_, rfl, _, _, rfl, rfl, _, rfl, ite2d (fun hc => ?_) fun hc => ?_⟩
      · exact ⟨_, rfl, _, rfl, rfl, -x, 1, rfl, by omega, by omega, by omega⟩
      · exact ⟨rfl, x, 0, rfl, by omega, by omega, by omega⟩
    rintro σ' H2 ⟨rfl, c, sg, rfl, c0, g0, g1⟩
    refine ⟨_, rfl, _, _, rfl, rfl, cpow10, _, _, rfl, rfl, _, rfl, ite2d (fun hc => ?_) fun hc => ?_⟩
    · -- a great number: its digits
      refine ⟨45, rfl, by decide, by decide, ?_⟩
      refine for_range (lo := 0) (n := (45 : Int).toNat) (fun t σ' H3 => ∃ (c : Int) (v5 : Option V), σ' = [some (.ref a), some (.ref N), some (.int (0 + i)), some (.int c), some (.int sg), v5, v6] ∧ 0 ≤ c ∧ NumsAt H H3 N (45 * i + t)) ⟨c, v5, rfl, c0, hn⟩ ?_ ?_
      · rintro t σ' H3 ht ⟨c, v5, rfl, c0, hn⟩
        refine ⟨_, rfl, _, _, rfl, rfl, _, rfl, ite2d (fun hc => ?_) fun hc => ?_⟩
        · obtain ⟨ys, hy, hyl, hn2⟩ := hn.push (x := c % 30) hN (Int.emod_nonneg _ (by decide))
          have ht : t < 45 := ht
          refine ⟨_, rfl, .inl ⟨rfl, _, SqL.of hy⟩, _, rfl, _, rfl, _, _, rfl, rfl, by show (0 : Int) < 30; decide, N, _, _, rfl, rfl, hy, by omega, ?_⟩
          refine ⟨_, rfl, _, _, rfl, rfl, ⟨by decide, by decide⟩, ?_⟩
          exact ⟨_, _, rfl, Int.ediv_nonneg c0 (by decide), hn2⟩
        · exact ⟨c, _, rfl, c0, hn.more (by omega)⟩
      · rintro σ' H3 ⟨c, v5, rfl, c0, hn⟩
        exact ⟨_, _, _, _, _, rfl, hn.more (by show 45 * i + 45 ≤ 45 * (i + 1); omega)⟩
    · have hc : c < 1000000000000000000 := by
        have : ¬ (10 : Int) ^ (18 : Int).toNat ≤ c := hc
        have e : (10 : Int) ^ (18 : Int).toNat = 1000000000000000000 := by decide
        omega
      refine ⟨_, rfl, _, _, rfl, rfl, Or.inr (by constructor <;> decide), _, rfl, _, _, rfl, rfl, Or.inr (by constructor <;> decide), _, _, rfl, rfl, _, rfl, _, _, rfl, rfl, Or.inr (by constructor <;> decide), _, _, rfl, rfl, _, _, rfl, rfl, _, rfl, _, _, rfl, rfl, by show (0 : Int) < 2147483647; decide, ?_⟩
      have m0 : 0 ≤ (c * 16807 + sg * 911 + (0 + (i : Int)) * 7919 + 13) % 2147483647 ∧ (c * 16807 + sg * 911 + (0 + (i : Int)) * 7919 + 13) % 2147483647 < 2147483647 := ⟨Int.emod_nonneg _ (by decide), Int.emod_lt_of_pos _ (by decide)⟩
      refine ⟨6, rfl, by decide, by decide, ?_⟩
      refine for_range (lo := 0) (n := (6 : Int).toNat) (fun t σ' H3 => ∃ (mx : Int) (v5 : Option V), σ' = [some (.ref a), some (.ref N), some (.int (0 + i)), some (.int c), some (.int sg), v5, some (.int mx)] ∧ 0 ≤ mx ∧ mx < 2147483647 ∧ NumsAt H H3 N (45 * i + t)) ⟨_, v5, rfl, m0.1, m0.2, hn⟩ ?_ ?_
      · rintro t σ' H3 ht ⟨mx, v5, rfl, m0, m1, hn⟩
        have ht : t < 6 := ht
        refine ⟨_, rfl, _, _, rfl, rfl, Or.inr (by constructor <;> decide), _, rfl, _, _, rfl, rfl, ⟨by decide, by decide⟩, _, _, rfl, rfl, _, rfl, _, _, rfl, rfl, _, rfl, _, _, rfl, rfl, by show (0 : Int) < 2147483647; decide, ?_⟩
        have m2 : 0 ≤ (mx * 69621 + mx / 1000 + (0 + (t : Int))) % 2147483647 ∧ (mx * 69621 + mx / 1000 + (0 + (t : Int))) % 2147483647 < 2147483647 := ⟨Int.emod_nonneg _ (by decide), Int.emod_lt_of_pos _ (by decide)⟩
        obtain ⟨ys, hy, hyl, hn2⟩ := hn.push (x := (mx * 69621 + mx / 1000 + (0 + (t : Int))) % 2147483647 / 8) hN (Int.ediv_nonneg m2.1 (by decide))
        refine ⟨_, rfl, .inl ⟨rfl, _, SqL.of hy⟩, _, rfl, _, _, rfl, rfl, ⟨by decide, by decide⟩, N, _, _, rfl, rfl, hy, by omega, ?_⟩
        exact ⟨_, _, rfl, m2.1, m2.2, hn2⟩
      · rintro σ' H3 ⟨mx, v5, rfl, m0, m1, hn⟩
        exact ⟨_, _, _, _, _, rfl, hn.more (by show 45 * i + 6 ≤ 45 * (i + 1); omega)⟩
  · rintro σ' H1 ⟨v2, v3, v4, v5, v6, rfl, hn⟩
    obtain ⟨s1, ns, h1, _, h3⟩ := hn
    refine ⟨_, rfl, by show 2 ≤ sizeLine; decide, fun p hp => ?_⟩
    have pN : N ≠ p := ne_of_none h1 hp
    exact k _ p N (s1.trans (same_new hp)) (s1.free hp) hN pN.symm ⟨ns, 0, upd_same, by rw [upd_ne pN]; exact h1, h3⟩
end
end My

/-! LB -/
namespace My
open PySem L2
local macro_rules | `(tactic| walk_at "side") => `(tactic| first | with_reducible rfl | assumption | rfl | decide | omega | exact cpow1 (by omega) (by omega) | exact cdiv (by omega) (by omega) | exact two_pos _ | exact SqL.of (by assumption) | exact SqT.of (by assumption) | exact TyX.base (TyOf.int _) | exact TyX.base (TyOf.bl _) | exact TyX.base TyOf.non | exact scal_opt _ _ | exact k_ii | exact k_bi | exact k_ni | exact k_ib | exact k_bb | exact TyX.base (TyOf.lst (by assumption)) | exact k_ll | exact k_lt)
local macro_rules | `(tactic| walk_at "p") => `(tactic| repeat (first | refine And.intro (by walk_at "side") ?_ | apply Exists.intro | refine iteN (by assumption) ?_ | refine iteP (by assumption) ?_ | refine iteN (by decide) ?_ | refine iteP (by decide) ?_))

section
variable {P : Program} {w : World} {K : PySem.W.Frag} {mg : Str → Option Value} {base : Heap}
def sp_law_is_int (_ : Txt w K mg) : Sp := fun vs H Q _ => ∃ x, vs = [x] ∧ plain4 x = true ∧ Q (.bl (isI x)) H
theorem sp_law_is_int_len {T : Txt w K mg} {vs H Q E} (h : sp_law_is_int T vs H Q E) : vs.length = 1 := by obtain ⟨_, rfl, _⟩ := h; rfl
theorem ok_law_is_int (T : Txt w K mg) : FnOk P w K mg base CX0 1 T.f_law_is_int T.fd_law_is_int ["_law_thing"] (sp_law_is_int T) := by
  skip
  refine T.F_law_is_int.ok sc_law_is_int (fun vs H Q E h => sp_law_is_int_len h) (fun cdv A outer s H vs Q E hr h => ?_)
  obtain ⟨x, rfl, hx, k⟩ := h
  refine ⟨_, (pss_one (ps_ret (pe_and (pe_callB call_isTy (by rfl) T.n_isinstance (by decide +kernel) (pa_cons (pv 0) (pa_cons (pe_bltn (v := .ty "int") (by rfl) T.n_int (by decide +kernel) rfl) pa_nil))) (pe_one (pe_not (pe_callB call_isTy (by rfl) T.n_isinstance (by decide +kernel) (pa_cons (pv 0) (pa_cons (pe_bltn (v := .ty "bool") (by rfl) T.n_bool (by decide +kernel) rfl) pa_nil)))))))), ?_⟩
  refine ⟨_, rfl, _, _, "int", rfl, ty4 hx, _, k_4i hx, ?_⟩
  cases x with
  | int i => exact ⟨_, rfl, iteP rfl ⟨_, rfl, _, _, _, rfl, ty4 (by rfl), _, k_4b (by rfl), _, rfl, k⟩⟩
  | bl b => exact ⟨_, rfl, iteP rfl ⟨_, rfl, _, _, _, rfl, ty4 (by rfl), _, k_4b (by rfl), _, rfl, k⟩⟩
  | non => exact ⟨_, rfl, iteN (fun z => by cases z) k⟩
  | str z => exact ⟨_, rfl, iteN (fun z => by cases z) k⟩
  | _ => cases hx
def lettersTo (ps : List (List Nat)) (j : Nat) : List (Nat × Nat) := ((lettersN.take j).filter fun c => decide (c ∈ ps.flatten)).map fun c => (c, ps.flatten.count c)
theorem lettersTo_all (ps : List (List Nat)) : lettersTo ps 5 = lettersM ps := rfl
theorem lettersTo_succ (ps : List (List Nat)) {j c : Nat} (h : lettersN[j]? = some c) : lettersTo ps (j + 1) = if 0 < ps.flatten.count c then lettersTo ps j ++ [(c, ps.flatten.count c)] else lettersTo ps j := by
  unfold lettersTo
  generalize ps.flatten = fl
  rw [List.take_succ, h, List.filter_append, List.map_append]
  by_cases hm : c ∈ fl
  · rw [if_pos (List.count_pos_iff.mpr hm)]
    simp [hm]
  · rw [if_neg fun z => hm (List.count_pos_iff.mp z)]
    simp [hm]
theorem sgV {a b : Nat} : decide (V.str (sg a) = V.str (sg b)) = decide (a = b) := by
  by_cases h : a = b
  · rw [h]; simp
  · rw [decide_eq_false h, decide_eq_false]
    intro z
    have := V.str.inj z
    unfold sg at this
    simp at this
    exact h this
def LettersL (H : Hp) (l : Addr) (L : List (Nat × Nat)) : Prop := ∃ ts, H l = some (.lst ts) ∧ Refs H ts L LetAt
def sp_law_letters (_ : Txt w K mg) : Sp := fun vs H Q _ => ∃ (a : Addr) (ps : List Str), vs = [.ref a] ∧ H a = some (.lst (ps.map V.str)) ∧ ps.length ≤ 3 ∧ (∀ z ∈ ps, z.length ≤ 64) ∧ ∀ (H' : Hp) (l : Addr), Same H H' → H l = none → LettersL H' l (lettersM (pls ps)) → Q (.ref l) H'
theorem sp_law_letters_len {T : Txt w K mg} {vs H Q E} (h : sp_law_letters T vs H Q E) : vs.length = 1 := by obtain ⟨_, _, rfl, _⟩ := h; rfl
theorem ok_law_letters (T : Txt w K mg) : FnOk P w K mg base CX0 1 T.f_law_letters T.fd_law_letters ["_law_patterns_here"] (sp_law_letters T) := by
  skip
  refine T.F_law_letters.ok sc_law_letters (fun vs H Q E h => sp_law_letters_len h) (fun cdv A outer s H vs Q E hr h => ?_)
  obtain ⟨a, ps, rfl, ha, h3, h64, k⟩ := h
  refine ⟨_, (pss_cons (ps_set (i := 1) sc_law_letters.nd rfl (Or.inl rfl) (pe_lst pa_nil))
       (pss_cons (ps_for PassesOwn.never rfl (pi_list (pe_lst (pa_cons pe_str (pa_cons pe_str (pa_cons pe_str (pa_cons pe_str (pa_cons pe_str pa_nil))))))) (pg_name (i := 2) sc_law_letters.nd rfl (Or.inl rfl))
        (pss_cons (ps_set (i := 3) sc_law_letters.nd rfl (Or.inl rfl) pe_int)
       (pss_cons (ps_for PassesOwn.never rfl (pi_list (pv 0)) (pg_name (i := 4) sc_law_letters.nd rfl (Or.inl rfl))
        (pss_one (ps_for PassesOwn.never rfl (pi_str (pv 4)) (pg_name (i := 5) sc_law_letters.nd rfl (Or.inl rfl))
        (pss_one (ps_if (pt_cmpR op_eq (pv 5) (pv 2) (nomark _))
        (pss_one (ps_aug (i := 3) sc_law_letters.nd rfl (Or.inl rfl) pe_int ip_add))
        pss_nil)))))
       (pss_one (ps_if (pt_cmpR op_gt (pv 3) pe_int (nomark _))
        (pss_one (ps_expr (pe_bm PySem.F.plainAttrs_list PySem.F.slot_list_append PySem.F.type_list_append mt_append (pv 1) (pa_cons (pe_tup (pa_cons (pv 2) (pa_cons (pv 3) pa_nil))) pa_nil))))
        pss_nil)))))
       (pss_one (ps_ret (pv 1))))), ?_⟩
  have sz : sizeLine = 16777216 := sizeLine_eq
  refine ⟨Nat.zero_le _, fun l hl0 => ?_⟩
  refine ⟨by show 5 ≤ _; omega, fun b hb0 => ?_⟩
  have eL : ([.str "a", .str "b", .str "c", .str "m", .str "n"] : List V) = lettersN.map fun c => V.str (sg c) := rfl
  rw [eL]
  have s0 := (same_new (o := .lst []) hl0).trans (same_new (o := .lst (lettersN.map fun c => V.str (sg c))) hb0)
  have hl2 : upd (upd H l (.lst [])) b (.lst (lettersN.map fun c => V.str (sg c))) l = some (.lst []) := same_new hb0 _ _ upd_same
  have hb2 : upd (upd H l (.lst [])) b (.lst (lettersN.map fun c => V.str (sg c))) b = some (.lst (lettersN.map fun c => V.str (sg c))) := upd_same
  have lb : b ≠ l := fun z => by rw [z, upd_same] at hb0; cases hb0
  generalize upd (upd H l (.lst [])) b (.lst (lettersN.map fun c => V.str (sg c))) = H2 at s0 hl2 hb2 ⊢
  have nl : ∀ b o, H b = some o → b ≠ l := fun b o e z => by rw [z, hl0] at e; cases e
  refine ⟨b, rfl, ⟨_, SqL.of hb2⟩, ?_⟩
  refine for_it (walk_list (xs := lettersN.map fun c => V.str (sg c))) (fun j σ H3 => Same H H3 ∧ H3 b = some (.lst (lettersN.map fun c => V.str (sg c))) ∧ (∃ ts, H3 l = some (.lst ts) ∧ Refs H3 ts (lettersTo (pls ps) j) LetAt) ∧ ∃ v2 v3 v4 v5 : Option V, σ = [some (.ref a), some (.ref l), v2, v3, v4, v5])
    ⟨s0, hb2, ⟨[], hl2, Refs.nil⟩, none, none, none, none, rfl⟩ (fun j σ H3 _ ⟨_, hb3, _⟩ => SqL.of hb3) ?_ ?_
  · rintro j x σ H3 H4 hj ⟨s3, hb3, ⟨ts, hl3, hR⟩, v2, v3, v4, v5, rfl⟩ ⟨rfl, hx⟩
    rw [List.getElem?_map] at hx
    have hj5 : j < lettersN.length := by rw [List.length_map] at hj; exact hj
    obtain ⟨c, hc, rfl⟩ : ∃ c, lettersN[j]? = some c ∧ x = V.str (sg c) := by
      rw [List.getElem?_eq_getElem hj5] at hx
      exact ⟨_, List.getElem?_eq_getElem hj5, (Option.some.inj hx).symm⟩
    refine ⟨_, rfl, a, rfl, ⟨_, SqL.of (s3 _ _ ha)⟩, ?_⟩
    refine for_it (walk_list (xs := ps.map V.str)) (fun i σ H5 => H5 = H4 ∧ ∃ v4 v5 : Option V, σ = [some (.ref a), some (.ref l), some (.str (sg c)), some (.int ((((pls ps).take i).flatten.count c : Nat) : Int)), v4, v5]) ⟨rfl, _, _, rfl⟩ (fun i σ H5 _ ⟨e, _⟩ => by rw [e]; exact SqL.of (s3 _ _ ha)) ?_ ?_
    · rintro i x σ H5 H6 hi ⟨rfl, w4, w5, rfl⟩ ⟨rfl, hx⟩
      rw [List.getElem?_map] at hx
      obtain ⟨z, hz, rfl⟩ : ∃ z, ps[i]? = some z ∧ x = V.str z := by
        cases h : ps[i]? with
        | none => rw [h] at hx; cases hx
        | some z => rw [h] at hx; exact ⟨z, rfl, (Option.some.inj hx).symm⟩
      refine ⟨_, rfl, z, rfl, ?_⟩
      refine for_it walk_str (fun k σ H7 => H7 = H6 ∧ ∃ v5 : Option V, σ = [some (.ref a), some (.ref l), some (.str (sg c)), some (.int (((((pls ps).take i).flatten.count c + (z.cps.toList.take k).count c : Nat)) : Int)), some (.str z), v5]) ⟨rfl, _, rfl⟩ (fun _ _ _ _ _ => trivial) ?_ ?_
      · rintro k x σ H7 H8 hk ⟨rfl, w5, rfl⟩ ⟨rfl, d, hd, rfl⟩
        rw [← Array.getElem?_toList] at hd
        have ek : (z.cps.toList.take (k + 1)).count c = (z.cps.toList.take k).count c + if d = c then 1 else 0 := by
          rw [List.take_succ, hd, List.count_append]
          by_cases e : d = c
          · simp [e]
          · simp [e]
        refine ⟨_, rfl, _, rfl, rfl, _, rfl, ?_⟩
        rw [show decide (V.str ⟨#[d]⟩ = V.str (sg c)) = decide (d = c) from sgV (a := d) (b := c)]
        by_cases e : d = c
        · refine iteP (decide_eq_true e) ?_
          refine ⟨_, rfl, _, _, rfl, rfl, ?_⟩
          refine ⟨rfl, some (.str ⟨#[d]⟩), ?_⟩
          rw [ek, if_pos e]
          rfl
        · refine iteN (by simp [e]) ?_
          refine ⟨rfl, some (.str ⟨#[d]⟩), ?_⟩
          rw [ek, if_neg e]
          rfl
      · rintro σ H7 ⟨rfl, w5, rfl⟩
        refine ⟨rfl, some (.str z), w5, ?_⟩
        have : (pls ps)[i]? = some z.cps.toList := by unfold pls; rw [List.getElem?_map, hz]; rfl
        rw [List.take_succ (l := pls ps), this, List.flatten_append, List.count_append, List.take_of_length_le (l := z.cps.toList) (i := z.cps.size) (by rw [Array.length_toList]; exact Nat.le_refl _), show ((some z.cps.toList).toList.flatten : List Nat) = z.cps.toList from List.append_nil _]
    · rintro σ H5 ⟨rfl, w4, w5, rfl⟩
      rw [List.take_of_length_le (by unfold pls; rw [List.length_map, List.length_map]; exact Nat.le_refl _)]
      have hs := lettersTo_succ (pls ps) hc
      refine ⟨_, rfl, _, _, rfl, rfl, _, rfl, ?_⟩
      by_cases e : 0 < (pls ps).flatten.count c
      · refine iteP (by simpa using e) ?_
        rw [if_pos e] at hs
        have t5 : (lettersTo (pls ps) j).length ≤ 5 := by
          unfold lettersTo
          rw [List.length_map]
          exact Nat.le_trans (List.length_filter_le _ _) (List.length_take_le' _ _)
        have tl := hR.1
        refine ⟨_, rfl, .inl ⟨rfl, _, SqL.of hl3⟩, _, rfl, _, rfl, by show 2 ≤ _; omega, fun u u0 => ?_⟩
        have s6 := same_new (o := .tup [.str (sg c), .int (((pls ps).flatten.count c : Nat) : Int)]) u0
        refine ⟨l, ts, _, rfl, rfl, s6 _ _ hl3, by omega, ?_⟩
        have nl6 := NL.list (s6 _ _ hl3) (o := .lst (ts ++ [V.ref u]))
        refine ⟨fun b o e => by rw [upd_ne (nl b o e)]; exact s6 _ _ (s3 _ _ e), by rw [upd_ne lb]; exact s6 _ _ hb3, ⟨_, upd_same, ?_⟩, _, _, _, _, rfl⟩
        rw [hs]
        refine (hR.map fun u x _ h => nl6 _ _ (s6 _ _ h) (fun xs z => by cases z)).snoc (R := LetAt) ?_
        exact nl6 _ _ upd_same (fun xs z => by cases z)
      · refine iteN (by simpa using e) ?_
        rw [if_neg e] at hs
        exact ⟨s3, hb3, ⟨ts, hl3, by rw [hs]; exact hR⟩, _, _, _, _, rfl⟩
  · rintro σ H3 ⟨s3, hb3, ⟨ts, hl3, hR⟩, v2, v3, v4, v5, rfl⟩
    exact ⟨_, rfl, k _ _ s3 hl0 ⟨ts, hl3, hR⟩⟩
end
end My

/-! NB -/
namespace My
open PySem L2
local macro_rules | `(tactic| walk_at "side") => `(tactic| first | with_reducible rfl | assumption | rfl | decide | omega | exact cpow1 (by omega) (by omega) | exact cdiv (by omega) (by omega) | exact two_pos _ | exact SqL.of (by assumption) | exact SqT.of (by assumption) | exact TyX.base (TyOf.int _) | exact TyX.base (TyOf.bl _) | exact TyX.base TyOf.non | exact scal_opt _ _ | exact k_ii | exact k_bi | exact k_ni | exact k_ib | exact k_bb | exact TyX.base (TyOf.lst (by assumption)) | exact k_ll | exact k_lt)
local macro_rules | `(tactic| walk_at "p") => `(tactic| repeat (first | refine And.intro (by walk_at "side") ?_ | apply Exists.intro | refine iteN (by assumption) ?_ | refine iteP (by assumption) ?_ | refine iteN (by decide) ?_ | refine iteP (by decide) ?_))

/-- numbers by letters -/
def dictV (L : List Nat) (g : Nat → Nat) : List (Key × V) := L.map fun c => ((.inr (sg c) : Key), V.int (g c : Nat))
theorem sg_inj {a b : Nat} : (Sum.inr (sg a) : Key) = .inr (sg b) ↔ a = b := by
  constructor
  · intro h
    have := Sum.inr.inj h
    unfold sg at this
    simpa using this
  · intro h; rw [h]
theorem dict_any (g : Nat → Nat) (s : Nat) : ∀ L : List Nat, ((dictV L g).any fun kv => decide (kv.1 = (.inr (sg s) : Key))) = decide (s ∈ L)
  | [] => rfl
  | c :: r => by
    have ih := dict_any g s r
    unfold dictV at ih ⊢
    rw [List.map_cons, List.any_cons, ih]
    by_cases h : c = s
    · subst h; simp
    · have h' : s ≠ c := fun e => h e.symm
      have : ¬ (Sum.inr (sg c) : Key) = .inr (sg s) := fun e => h (sg_inj.mp e)
      simp [h', this]
theorem dict_val (g : Nat → Nat) (s : Nat) : ∀ L : List Nat, valV (dictV L g) (.inr (sg s)) = if s ∈ L then some (V.int (g s : Nat)) else none
  | [] => rfl
  | c :: r => by
    have ih := dict_val g s r
    unfold valV dictV at ih ⊢
    rw [List.map_cons, List.find?_cons]
    by_cases h : c = s
    · subst h; simp
    · have h' : s ≠ c := fun e => h e.symm
      have : decide ((Sum.inr (sg c) : Key) = .inr (sg s)) = false := decide_eq_false fun e => h (sg_inj.mp e)
      simp only [this]
      rw [ih]
      simp [h']
theorem dict_put {L : List Nat} {g : Nat → Nat} {s v : Nat} (h : s ∈ L) : putK (dictV L g) (.inr (sg s)) (V.int (v : Nat)) = dictV L fun c => if c = s then v else g c := by
  unfold putK
  rw [dict_any, if_pos (decide_eq_true h)]
  unfold dictV
  rw [List.map_map]
  refine List.map_congr_left fun c hc => ?_
  show (if (Sum.inr (sg c) : Key) = .inr (sg s) then ((Sum.inr (sg c) : Key), V.int (v : Nat)) else ((Sum.inr (sg c) : Key), V.int (g c : Nat))) = ((Sum.inr (sg c) : Key), V.int ((if c = s then v else g c : Nat) : Nat))
  by_cases e : c = s
  · subst e; rw [if_pos rfl, if_pos rfl]
  · rw [if_neg fun z => e (sg_inj.mp z), if_neg e]
theorem dict_new {L : List Nat} {g : Nat → Nat} {s : Nat} (h : ¬ s ∈ L) : putK (dictV L g) (.inr (sg s)) (V.int (g s : Nat)) = dictV (L ++ [s]) g := by
  unfold putK
  rw [dict_any, if_neg (by simp [h])]
  unfold dictV
  rw [List.map_append]; rfl
theorem dict_congr {L : List Nat} {g g' : Nat → Nat} (h : ∀ c ∈ L, g c = g' c) : dictV L g = dictV L g' := List.map_congr_left fun c hc => by rw [h c hc]
end My

/-! LF -/
namespace My
open PySem L2
local macro_rules | `(tactic| walk_at "side") => `(tactic| first | with_reducible rfl | assumption | rfl | decide | omega | exact cpow1 (by omega) (by omega) | exact cdiv (by omega) (by omega) | exact two_pos _ | exact SqL.of (by assumption) | exact SqT.of (by assumption) | exact TyX.base (TyOf.int _) | exact TyX.base (TyOf.bl _) | exact TyX.base TyOf.non | exact scal_opt _ _ | exact k_ii | exact k_bi | exact k_ni | exact k_ib | exact k_bb | exact TyX.base (TyOf.lst (by assumption)) | exact k_ll | exact k_lt)
local macro_rules | `(tactic| walk_at "p") => `(tactic| repeat (first | refine And.intro (by walk_at "side") ?_ | apply Exists.intro | refine iteN (by assumption) ?_ | refine iteP (by assumption) ?_ | refine iteN (by decide) ?_ | refine iteP (by decide) ?_))

/-- all that was there but p -/
def KP (p : Addr) (H H' : Hp) : Prop := ∀ b o, H b = some o → b ≠ p → H' b = some o
theorem KP.of {p : Addr} {H H' : Hp} (s : Same H H') : KP p H H' := fun b o e _ => s b o e
theorem KP.trans {p : Addr} {H H' H'' : Hp} (s : KP p H H') (t : KP p H' H'') : KP p H H'' := fun b o e hb => t b o (s b o e hb) hb
theorem lettersM_bits (ps : List Str) (n : Nat) (h : ∀ z ∈ ps, z.length = n) (h3 : ps.length ≤ 3) (n8 : n ≤ 8) : ∀ q ∈ lettersM (pls ps), q.2 ≤ 24 := by
  intro q hq
  unfold lettersM at hq
  obtain ⟨c, _, rfl⟩ := List.mem_map.mp hq
  show List.count c (pls ps).flatten ≤ 24
  refine Nat.le_trans (List.count_le_length) ?_
  have : ∀ l : List Str, (∀ z ∈ l, z.length = n) → (pls l).flatten.length = l.length * n := fun l => by
    induction l with
    | nil => intro _; simp [pls]
    | cons z r ih =>
      intro hz
      have e1 := ih fun y hy => hz y (by simp [hy])
      have e2 := hz z (by simp)
      unfold pls at e1 ⊢
      rw [List.map_cons, List.flatten_cons, List.length_append, e1, List.length_cons, Nat.succ_mul, Array.length_toList]
      have : z.cps.size = z.length := rfl
      omega
  rw [this ps h]
  have := Nat.mul_le_mul h3 n8
  omega
/-- numbers within the letters' bits -/
def fitN (L : List (Nat × Nat)) (ns : List Nat) : Prop := ns.length = L.length ∧ ∀ (i : Nat) (q : Nat × Nat) (x : Nat), L[i]? = some q → ns[i]? = some x → x < 2 ^ q.2
theorem fitN.snoc {L : List (Nat × Nat)} {ns : List Nat} {q : Nat × Nat} {x : Nat} (h : fitN L ns) (hx : x < 2 ^ q.2) : fitN (L ++ [q]) (ns ++ [x]) := by
  obtain ⟨hl, hw⟩ := h
  refine ⟨by rw [List.length_append, List.length_append, hl]; rfl, fun i q' x' h1 h2 => ?_⟩
  by_cases hi : i < L.length
  · rw [List.getElem?_append_left hi] at h1
    rw [List.getElem?_append_left (by omega)] at h2
    exact hw i q' x' h1 h2
  · have hi2 := (List.getElem?_eq_some_iff.mp h1).1
    rw [List.length_append, List.length_singleton] at hi2
    have : i = L.length := by omega
    subst this
    rw [List.getElem?_append_right (Nat.le_refl _), Nat.sub_self] at h1
    rw [← hl, List.getElem?_append_right (Nat.le_refl _), Nat.sub_self] at h2
    cases h1; cases h2; exact hx
section
variable {P : Program} {w : World} {K : PySem.W.Frag} {mg : Str → Option Value} {base : Heap}
def sp_law_numbers_drawn (_ : Txt w K mg) : Sp := fun vs H Q _ => ∃ (p q a : Addr) (ps : List Str) (n : Nat), vs = [.ref p, .ref a] ∧ Dr H p q ∧ p ≠ q ∧ H a = some (.lst (ps.map V.str)) ∧ a ≠ p ∧ ps.length ≤ 3 ∧ n ≤ 8 ∧ (∀ z ∈ ps, z.length = n) ∧
  ∀ H' l ns, Dr H' p q → KP p H H' → H l = none → H' l = some (.lst (natsV ns)) → fitN (lettersM (pls ps)) ns → Q (.ref l) H'
theorem sp_law_numbers_drawn_len {T : Txt w K mg} {vs H Q E} (h : sp_law_numbers_drawn T vs H Q E) : vs.length = 2 := by obtain ⟨_, _, _, _, _, rfl, _⟩ := h; rfl
theorem ok_law_numbers_drawn (T : Txt w K mg) : FnOk P w K mg base CX0 2 T.f_law_numbers_drawn T.fd_law_numbers_drawn ["_law_draws_here", "_law_patterns_here"] (sp_law_numbers_drawn T) := by
  have G_law_letters := ok_law_letters (P := P) (w := w) (base := base) T; have G_law_take := ok_law_take (P := P) (w := w) (base := base) T
  refine T.F_law_numbers_drawn.ok sc_law_numbers_drawn (fun vs H Q E h => sp_law_numbers_drawn_len h) (fun cdv A outer s H vs Q E hr h => ?_)
  obtain ⟨p, q, a, ps, n, rfl, hd, hpq, ha, hap, h3, n8, hz, k⟩ := h
  refine ⟨_, (pss_cons (ps_set (i := 2) sc_law_numbers_drawn.nd rfl (Or.inl rfl) (pe_lst pa_nil))
       (pss_cons (ps_for PassesOwn.never rfl (pi_list (pe_call G_law_letters hr rfl T.g_law_letters T.F_law_letters.kp T.b_law_letters .nil pass0 (pa_cons (pv 1) pa_nil))) (pg_tup (n := 2) rfl (pgs_cons (pg_name (i := 3) sc_law_numbers_drawn.nd rfl (Or.inl rfl)) (pgs_cons (pg_name (i := 4) sc_law_numbers_drawn.nd rfl (Or.inl rfl)) pgs_nil)))
        (pss_cons (ps_set (i := 5) sc_law_numbers_drawn.nd rfl (Or.inl rfl) (pe_call G_law_take hr rfl T.g_law_take T.F_law_take.kp T.b_law_take .nil pass0 (pa_cons (pv 0) (pa_cons pe_int pa_nil))))
       (pss_cons (ps_set (i := 6) sc_law_numbers_drawn.nd rfl (Or.inl rfl) (pe_op op_sub (pe_op op_shl pe_int (pv 4)) pe_int))
       (pss_one (ps_if (pt_cmpR op_eq (pv 5) pe_int (nomark _))
        (pss_one (ps_expr (pe_bm PySem.F.plainAttrs_list PySem.F.slot_list_append PySem.F.type_list_append mt_append (pv 2) (pa_cons (pv 6) pa_nil))))
        (pss_one (ps_if (pt_cmpR op_eq (pv 5) pe_int (nomark _))
        (pss_one (ps_expr (pe_bm PySem.F.plainAttrs_list PySem.F.slot_list_append PySem.F.type_list_append mt_append (pv 2) (pa_cons pe_int pa_nil))))
        (pss_one (ps_expr (pe_bm PySem.F.plainAttrs_list PySem.F.slot_list_append PySem.F.type_list_append mt_append (pv 2) (pa_cons (pe_op op_mod (pe_callTy call_intI (by rfl) T.n_int (by decide +kernel) (pa_cons (pe_op op_add (pe_op op_mul (pe_call G_law_take hr rfl T.g_law_take T.F_law_take.kp T.b_law_take .nil pass0 (pa_cons (pv 0) (pa_cons pe_int pa_nil))) pe_int) (pe_call G_law_take hr rfl T.g_law_take T.F_law_take.kp T.b_law_take .nil pass0 (pa_cons (pv 0) (pa_cons pe_int pa_nil)))) pa_nil)) (pe_op op_add (pv 6) pe_int)) pa_nil)))))))))))
       (pss_one (ps_ret (pv 2))))), ?_⟩
  have sz : sizeLine = 16777216 := sizeLine_eq
  refine ⟨Nat.zero_le _, fun l l0 => ?_⟩
  have s1 := same_new (o := .lst []) l0
  have hd1 := hd.news s1
  have lp : l ≠ p := fun z => by obtain ⟨_, _, e, _⟩ := hd; rw [z, e] at l0; cases l0
  refine ⟨_, rfl, a, ps, rfl, s1 _ _ ha, h3, fun z hz' => by rw [hz z hz']; omega, fun H2 r s2 r0 hr => ?_⟩
  have hd2 := hd1.news s2
  have h2l := s2 _ _ upd_same
  have rl : r ≠ l := fun z => by rw [z, upd_same] at r0; cases r0
  have rp : r ≠ p := fun z => by obtain ⟨_, _, e, _⟩ := hd1; rw [z, e] at r0; cases r0
  obtain ⟨ts, hts, hR⟩ := hr
  have hLl := hR.1
  have hL5 := lettersM_le (pls ps)
  have hbits := lettersM_bits ps n hz h3 n8
  have nl : ∀ b o, H b = some o → b ≠ l := fun b o e z => by rw [z, l0] at e; cases e
  refine ⟨r, rfl, ⟨_, SqL.of hts⟩, ?_⟩
  refine for_it (walk_list (xs := ts)) (fun j σ H3 => Dr H3 p q ∧ KP p H H3 ∧ (∀ b o, H2 b = some o → b ≠ p → b ≠ l → H3 b = some o) ∧ (∃ ns, H3 l = some (.lst (natsV ns)) ∧ ns.length = j ∧ fitN ((lettersM (pls ps)).take j) ns) ∧ ∃ v3 v4 v5 v6 : Option V, σ = [some (.ref p), some (.ref a), some (.ref l), v3, v4, v5, v6])
    ⟨hd2, KP.of (s1.trans s2), fun b o e _ _ => e, ⟨[], h2l, rfl, rfl, fun i q x h => by simp at h⟩, none, none, none, none, rfl⟩ (fun j σ H3 _ ⟨_, _, k3, _⟩ => SqL.of (k3 _ _ hts rp rl)) ?_ ?_
  · rintro j x σ H3 H4 hj ⟨hd3, kp, k3, ⟨ns, hl3, hnl, hfN⟩, v3, v4, v5, v6, rfl⟩ ⟨rfl, hx⟩
    obtain ⟨u, g, hg, hu, hr⟩ := hR.at (i := j) (by omega)
    rw [hu] at hx
    cases hx
    have ul : u ≠ l := fun z => by rw [z] at hr; unfold LetAt at hr; rw [h2l] at hr; cases hr
    have up : u ≠ p := fun z => by obtain ⟨_, _, e, _⟩ := hd2; rw [z] at hr; unfold LetAt at hr; rw [e] at hr; cases hr
    have hr4 := k3 _ _ hr up ul
    have hg24 := hbits g (List.mem_of_getElem? hg)
    refine ⟨u, _, rfl, SqT.of hr4, rfl, _, _, rfl, _, _, rfl, rfl, ?_⟩
    refine ⟨_, rfl, p, q, _, rfl, hd3, hpq, by decide, fun H5 kd kd0 kd1 d5 k5 => ?_⟩
    have hl5 := k5 _ _ hl3 lp
    refine ⟨_, rfl, _, _, rfl, rfl, cpow1 (by omega) (by omega), _, _, rfl, rfl, ?_⟩
    have fin : ∀ (H6 : Hp) (x : Int) (w3 w4 w5 w6 : Option V), 0 ≤ x → x < 2 ^ g.2 → Dr H6 p q → KP p H4 H6 → H6 l = some (.lst (natsV ns)) → Dr (upd H6 l (.lst (natsV ns ++ [V.int x]))) p q ∧ KP p H (upd H6 l (.lst (natsV ns ++ [V.int x]))) ∧ (∀ b o, H2 b = some o → b ≠ p → b ≠ l → upd H6 l (.lst (natsV ns ++ [V.int x])) b = some o) ∧ (∃ ns', upd H6 l (.lst (natsV ns ++ [V.int x])) l = some (.lst (natsV ns')) ∧ ns'.length = j + 1 ∧ fitN ((lettersM (pls ps)).take (j + 1)) ns') ∧ ∃ v3 v4 v5 v6 : Option V, [some (V.ref p), some (.ref a), some (.ref l), w3, w4, w5, w6] = [some (.ref p), some (.ref a), some (.ref l), v3, v4, v5, v6] := fun H6 x w3 w4 w5 w6 x0 x2 d6 k6 hl6 => by
      have eg : (lettersM (pls ps)).take (j + 1) = (lettersM (pls ps)).take j ++ [g] := by rw [List.take_succ, hg]; rfl
      have x2' : x.toNat < 2 ^ g.2 := by
        have e : ((2 ^ g.2 : Nat) : Int) = 2 ^ g.2 := Int.natCast_pow 2 _
        omega
      refine ⟨?_, fun b o e hb => by rw [upd_ne (nl b o e)]; exact k6 _ _ (kp _ _ e hb) hb, fun b o e hb hb2 => by rw [upd_ne hb2]; exact k6 _ _ (k3 _ _ e hb hb2) hb, ⟨ns ++ [x.toNat], by rw [upd_same, ← natsV_snoc, Int.toNat_of_nonneg x0], by simp [hnl], by rw [eg]; exact hfN.snoc x2'⟩, _, _, _, _, rfl⟩
      obtain ⟨ms, m, e1, e2, e3⟩ := d6
      have lq : q ≠ l := fun z => by obtain ⟨_, _, _, e, _⟩ := hd; rw [z, l0] at e; cases e
      exact ⟨ms, m, by rw [upd_ne lp.symm]; exact e1, by rw [upd_ne lq]; exact e2, e3⟩
    have hb0 : (0 : Int) ≤ 1 * 2 ^ ((g.2 : Nat) : Int).toNat - 1 := by
      have := pow_posK ((g.2 : Nat) : Int).toNat
      omega
    have nl6 : ns.length < sizeLine := by omega
    refine ⟨_, rfl, rfl, _, rfl, iteB (fun _ => ?_) fun _ => ?_⟩
    · refine ⟨_, rfl, .inl ⟨rfl, _, SqL.of hl5⟩, _, rfl, l, _, _, rfl, rfl, hl5, by rw [natsV_len]; exact nl6, ?_⟩
      exact fin _ _ _ _ _ _ hb0 (by rw [Int.one_mul, Int.toNat_natCast]; omega) d5 k5 hl5
    refine ⟨_, rfl, rfl, _, rfl, iteB (fun _ => ?_) fun _ => ?_⟩
    · refine ⟨_, rfl, .inl ⟨rfl, _, SqL.of hl5⟩, l, _, _, rfl, rfl, hl5, by rw [natsV_len]; exact nl6, ?_⟩
      exact fin _ _ _ _ _ _ (by decide) (pow_posK _) d5 k5 hl5
    · refine ⟨_, rfl, .inl ⟨rfl, _, SqL.of hl5⟩, _, rfl, p, q, _, rfl, d5, hpq, by decide, fun H6 x x0 x1 d6 k6 => ?_⟩
      refine ⟨_, _, rfl, rfl, .inr ⟨by decide, by decide⟩, _, rfl, p, q, _, rfl, d6, hpq, by decide, fun H7 y y0 y1 d7 k7 => ?_⟩
      have hl7 := k7 _ _ (k6 _ _ hl5 lp) lp
      have hp0 : (0 : Int) < 1 * 2 ^ ((g.2 : Nat) : Int).toNat - 1 + 1 := by omega
      refine ⟨_, _, rfl, rfl, _, rfl, _, rfl, _, _, rfl, rfl, _, _, rfl, rfl, hp0, l, _, _, rfl, rfl, hl7, by rw [natsV_len]; exact nl6, ?_⟩
      exact fin _ _ _ _ _ _ (Int.emod_nonneg _ (by omega)) (Int.lt_of_lt_of_le (Int.emod_lt_of_pos _ hp0) (by rw [Int.one_mul, Int.toNat_natCast]; omega)) d7 (KP.trans k5 (KP.trans k6 k7)) hl7
  · rintro σ H3 ⟨hd3, kp, k3, ⟨ns, hl3, hnl, hfN⟩, v3, v4, v5, v6, rfl⟩
    rw [List.take_of_length_le (by omega)] at hfN
    exact ⟨_, rfl, k _ l ns hd3 kp l0 hl3 hfN⟩
end
end My

/-! LI -/
namespace My
open PySem L2
local macro_rules | `(tactic| walk_at "side") => `(tactic| first | with_reducible rfl | assumption | rfl | decide | omega | exact cpow1 (by omega) (by omega) | exact cdiv (by omega) (by omega) | exact two_pos _ | exact SqL.of (by assumption) | exact SqT.of (by assumption) | exact TyX.base (TyOf.int _) | exact TyX.base (TyOf.bl _) | exact TyX.base TyOf.non | exact scal_opt _ _ | exact k_ii | exact k_bi | exact k_ni | exact k_ib | exact k_bb | exact TyX.base (TyOf.lst (by assumption)) | exact k_ll | exact k_lt)
local macro_rules | `(tactic| walk_at "p") => `(tactic| repeat (first | refine And.intro (by walk_at "side") ?_ | apply Exists.intro | refine iteN (by assumption) ?_ | refine iteP (by assumption) ?_ | refine iteN (by decide) ?_ | refine iteP (by decide) ?_))

theorem mergeL (e n : Nat) : mergeK ([] : List (Key × V)) [(.inr "a", .int e), (.inr "b", .int e), (.inr "c", .int e), (.inr "m", .int n), (.inr "n", .int n)] = dictV lettersN (fun c => if isReg c = true then e else n) := rfl
theorem drawn12 : ∀ v : Nat, v < 12 → ∃ c, ("0101mnab01nc" : Str).cps.toList[v]? = some c ∧ okS c = true := by
  intro v hv
  have : ∀ v < 12, (match ("0101mnab01nc" : Str).cps.toList[v]? with | some c => okS c | none => false) = true := by decide
  have h := this v hv
  split at h
  · rename_i c e; exact ⟨c, e, h⟩
  · cases h
theorem app_len (x y : Str) : (x ++ y).length = x.length + y.length := by
  show (x.cps ++ y.cps).size = _
  rw [Array.size_append]; rfl
def totL (e n c : Nat) : Nat := if isReg c = true then e else n
/-- the bits of the letters keep the bounds -/
theorem patsOk_of {n r e : Nat} {ps : List Str} (l1 : 1 ≤ ps.length) (l3 : ps.length ≤ 3) (hp : ∀ z ∈ ps, z.length = n ∧ ∀ c ∈ z.cps.toList, okS c = true) (he : 2 ^ e ≤ r) (en : e ≤ n)
    (hc : ∀ c ∈ lettersN, (pls ps).flatten.count c ≤ totL e n c) : PatsOk n r ps := by
  refine ⟨l1, l3, hp, fun q hq => ?_⟩
  unfold lettersM at hq
  obtain ⟨c, hc', rfl⟩ := List.mem_map.mp hq
  have h := hc c (List.mem_filter.mp hc').1
  unfold totL at h
  refine ⟨?_, fun hr => ?_⟩
  · show List.count c _ ≤ n
    split at h <;> omega
  · rw [if_pos hr] at h
    exact Nat.le_trans (Nat.pow_le_pow_right (by decide) h) he
section
variable {P : Program} {w : World} {K : PySem.W.Frag} {mg : Str → Option Value} {base : Heap}
def sp_law_patterns (_ : Txt w K mg) : Sp := fun vs H Q _ => ∃ (p q : Addr) (n r m : Nat), vs = [.ref p, .int (n : Nat), .int (r : Nat), .int (m : Nat)] ∧ Dr H p q ∧ p ≠ q ∧ 4 ≤ n ∧ n ≤ 8 ∧ (r = 1 ∨ r = 2 ∨ r = 3 ∨ r = 4) ∧ 1 ≤ m ∧ m ≤ 3 ∧
  ∀ H' l ps, Dr H' p q → KP p H H' → H l = none → H' l = some (.lst (ps.map V.str)) → PatsOk n r ps → Q (.ref l) H'
theorem sp_law_patterns_len {T : Txt w K mg} {vs H Q E} (h : sp_law_patterns T vs H Q E) : vs.length = 4 := by obtain ⟨_, _, _, _, _, rfl, _⟩ := h; rfl
theorem ok_law_patterns (T : Txt w K mg) : FnOk P w K mg base CX0 2 T.f_law_patterns T.fd_law_patterns ["_law_draws_here", "_law_word_here", "_law_registers", "_law_many"] (sp_law_patterns T) := by
  have G_law_take := ok_law_take (P := P) (w := w) (base := base) T
  refine T.F_law_patterns.ok sc_law_patterns (fun vs H Q E h => sp_law_patterns_len h) (fun cdv A outer s H vs Q E hr h => ?_)
  obtain ⟨p, q, n, r, m, rfl, hd, hpq, n4, n8, hr', m1, m3, k⟩ := h
  refine ⟨_, (pss_cons (ps_set (i := 4) sc_law_patterns.nd rfl (Or.inl rfl) (pe_ix ix_list (pe_lst (pa_cons pe_int (pa_cons pe_int (pa_cons pe_int (pa_cons pe_int (pa_cons pe_int pa_nil)))))) (pv 2) (fun _ _ => rfl)))
       (pss_cons (ps_set (i := 5) sc_law_patterns.nd rfl (Or.inl rfl) (pe_disp (pps_cons pe_str (pv 4) (pps_cons pe_str (pv 4) (pps_cons pe_str (pv 4) (pps_cons pe_str (pv 1) (pps_cons pe_str (pv 1) pps_nil))))) rfl rfl (by intro z; cases z) (by decide)))
       (pss_cons (ps_set (i := 6) sc_law_patterns.nd rfl (Or.inl rfl) (pe_lst pa_nil))
       (pss_cons (ps_for PassesOwn.never rfl (pi_range1 (by rfl) T.n_range (pa_cons (pv 3) pa_nil)) (pg_name (i := 7) sc_law_patterns.nd rfl (Or.inl rfl))
        (pss_cons (ps_set (i := 8) sc_law_patterns.nd rfl (Or.inl rfl) pe_str)
       (pss_cons (ps_for PassesOwn.never rfl (pi_range1 (by rfl) T.n_range (pa_cons (pv 1) pa_nil)) (pg_name (i := 9) sc_law_patterns.nd rfl (Or.inl rfl))
        (pss_cons (ps_set (i := 10) sc_law_patterns.nd rfl (Or.inl rfl) (pe_ix ix_str pe_str (pe_call G_law_take hr rfl T.g_law_take T.F_law_take.kp T.b_law_take .nil pass0 (pa_cons (pv 0) (pa_cons pe_int pa_nil))) (fun _ _ => rfl)))
       (Evl.pss_cut (ps_if (pt_cmp (pc_din (hu_of hr) (pv 10) (pv 5)))
        (pss_one (ps_if (pt_cmpR op_eq (pe_dget (hu_of hr) (pv 5) (pv 10) (fun _ _ => rfl)) pe_int (nomark _))
        (pss_one (ps_set (i := 10) sc_law_patterns.nd rfl (Or.inl rfl) pe_str))
        (pss_one (ps_dput (hu_of hr) (pv 5) (pv 10) (pe_op op_sub (pe_dget (hu_of hr) (pv 5) (pv 10) (fun _ _ => rfl)) pe_int) rfl))))
        pss_nil)
       (pss_one (ps_set (i := 8) sc_law_patterns.nd rfl (Or.inl rfl) (pe_op op_add_str (pv 8) (pv 10)))))))
       (pss_one (ps_expr (pe_bm PySem.F.plainAttrs_list PySem.F.slot_list_append PySem.F.type_list_append mt_append (pv 6) (pa_cons (pv 8) pa_nil)))))))
       (pss_one (ps_ret (pv 6))))))), ?_⟩
  have sz : sizeLine = 16777216 := sizeLine_eq
  obtain ⟨e, hat, he, e2⟩ : ∃ e : Nat, atI ([.int 0, .int 0, .int 1, .int 1, .int 2] : List V) (r : Nat) = some (.int (e : Nat)) ∧ 2 ^ e ≤ r ∧ e ≤ 2 := by
    rcases hr' with rfl | rfl | rfl | rfl
    · exact ⟨0, rfl, by decide, by decide⟩
    · exact ⟨1, rfl, by decide, by decide⟩
    · exact ⟨1, rfl, by decide, by decide⟩
    · exact ⟨2, rfl, by decide, by decide⟩
  refine ⟨by show 5 ≤ _; omega, fun b0 hb0 => ?_⟩
  have s1 := same_new (o := .lst [.int 0, .int 0, .int 1, .int 1, .int 2]) hb0
  refine ⟨_, rfl, b0, _, _, _, rfl, rfl, SqL.of upd_same, hat, ?_⟩
  intro d d0
  have s2 := s1.trans (same_new (o := .dK []) d0)
  refine ⟨_, rfl, _, rfl, _, rfl, _, rfl, _, rfl, ?_⟩
  refine ⟨upd_same, [(.inr "a", .int (e : Nat)), (.inr "b", .int (e : Nat)), (.inr "c", .int (e : Nat)), (.inr "m", .int (n : Nat)), (.inr "n", .int (n : Nat))], rfl, by show 5 ≤ 15; decide, ?_⟩
  rw [mergeL]
  have dN : H d = none := by
    cases h : H d with
    | none => rfl
    | some o => rw [s1 _ _ h] at d0; cases d0
  have dp : d ≠ p := fun z => by obtain ⟨_, _, h, _⟩ := hd; rw [z, h] at dN; cases dN
  have dq : d ≠ q := fun z => by obtain ⟨_, _, _, h, _⟩ := hd; rw [z, h] at dN; cases dN
  have s3 : Same H (upd (upd (upd H b0 (.lst [.int 0, .int 0, .int 1, .int 1, .int 2])) d (.dK [])) d (.dK (dictV lettersN fun c => if isReg c = true then e else n))) := fun b' o h => by
    have : b' ≠ d := fun z => by rw [z, dN] at h; cases h
    rw [upd_ne this]; exact s2 _ _ h
  have hd3 : upd (upd (upd H b0 (.lst [.int 0, .int 0, .int 1, .int 1, .int 2])) d (.dK [])) d (.dK (dictV lettersN fun c => if isReg c = true then e else n)) d = some (.dK (dictV lettersN (totL e n))) := upd_same
  generalize upd (upd (upd H b0 (.lst [.int 0, .int 0, .int 1, .int 1, .int 2])) d (.dK [])) d (.dK (dictV lettersN fun c => if isReg c = true then e else n)) = H3 at s3 hd3 ⊢
  refine ⟨Nat.zero_le _, fun l l0 => ?_⟩
  have s4 := s3.trans (same_new (o := .lst []) l0)
  have lN : H l = none := by
    cases h : H l with
    | none => rfl
    | some o => rw [s3 _ _ h] at l0; cases l0
  have lp : l ≠ p := fun z => by obtain ⟨_, _, h, _⟩ := hd; rw [z, h] at lN; cases lN
  have lq : l ≠ q := fun z => by obtain ⟨_, _, _, h, _⟩ := hd; rw [z, h] at lN; cases lN
  have ld : l ≠ d := fun z => by rw [z, hd3] at l0; cases l0
  have nD : ∀ b' o, H b' = some o → b' ≠ d := fun b' o h z => by rw [z, dN] at h; cases h
  have nL : ∀ b' o, H b' = some o → b' ≠ l := fun b' o h z => by rw [z, lN] at h; cases h
  have drk : ∀ (H' : Hp) (x : Addr) (o : HO), x ≠ p → x ≠ q → Dr H' p q → Dr (upd H' x o) p q := fun H' x o xp xq ⟨ms, j, h1, h2, h3⟩ => ⟨ms, j, by rw [upd_ne xp.symm]; exact h1, by rw [upd_ne xq.symm]; exact h2, h3⟩
  refine ⟨_, rfl, _, rfl, by omega, by omega, ?_⟩
  refine for_range (lo := 0) (n := ((m : Nat) : Int).toNat) (fun i σ H5 => Dr H5 p q ∧ KP p H H5 ∧ (∃ (ps : List Str) (g : Nat → Nat), H5 l = some (.lst (ps.map V.str)) ∧ ps.length = i ∧ (∀ z ∈ ps, z.length = n ∧ ∀ c ∈ z.cps.toList, okS c = true) ∧ H5 d = some (.dK (dictV lettersN g)) ∧ ∀ c ∈ lettersN, g c + (pls ps).flatten.count c = totL e n c) ∧ ∃ v7 v8 v9 v10 : Option V, σ = [some (.ref p), some (.int (n : Nat)), some (.int (r : Nat)), some (.int (m : Nat)), some (.int (e : Nat)), some (.ref d), some (.ref l), v7, v8, v9, v10])
    ⟨hd.news s4, KP.of s4, ⟨[], totL e n, upd_same, rfl, (fun z hz => by cases hz), same_new l0 _ _ hd3, fun c _ => rfl⟩, none, none, none, none, rfl⟩ ?_ ?_
  · rintro i σ H5 hi ⟨d5, kp5, ⟨ps, g, hl5, hpl, hpok, hd5, hg⟩, v7, v8, v9, v10, rfl⟩
    rw [Int.toNat_natCast] at hi
    refine ⟨_, rfl, _, rfl, by omega, by omega, ?_⟩
    refine for_range (lo := 0) (n := ((n : Nat) : Int).toNat) (fun k σ H6 => Dr H6 p q ∧ KP p H H6 ∧ H6 l = some (.lst (ps.map V.str)) ∧ (∃ (z : Str) (g : Nat → Nat) (v9 v10 : Option V), z.length = k ∧ (∀ c ∈ z.cps.toList, okS c = true) ∧ H6 d = some (.dK (dictV lettersN g)) ∧ (∀ c ∈ lettersN, g c + ((pls ps).flatten.count c + z.cps.toList.count c) = totL e n c) ∧ σ = [some (.ref p), some (.int (n : Nat)), some (.int (r : Nat)), some (.int (m : Nat)), some (.int (e : Nat)), some (.ref d), some (.ref l), some (.int (0 + (i : Int))), some (.str z), v9, v10]))
      ⟨d5, kp5, hl5, "", g, v9, v10, rfl, (by intro c hc; have : ("" : Str).cps.toList = [] := rfl; rw [this] at hc; cases hc), hd5, fun c hc => hg c hc, rfl⟩ ?_ ?_
    · rintro k σ H6 hk ⟨d6, kp6, hl6, z, g, v9, v10, hz, hzok, hd6, hg, rfl⟩
      rw [Int.toNat_natCast] at hk
      refine ⟨_, rfl, p, q, _, rfl, d6, hpq, by decide, fun H7 v v0 v1 d7 k7 => ?_⟩
      obtain ⟨c0, hc0, hok0⟩ := drawn12 v.toNat (by omega)
      have hat2 : atI ("0101mnab01nc" : Str).cps.toList v = some c0 := by
        rw [show v = ((v.toNat : Nat) : Int) by omega]; exact atI_nat hc0
      have kp7 := KP.trans kp6 k7
      have hd7 := k7 _ _ hd6 dp
      have hl7 := k7 _ _ hl6 lp
      refine ⟨_, _, c0, rfl, rfl, by show 12 ≤ _; omega, hat2, ?_⟩
      refine ⟨fun σ' H' => ∃ (c : Nat) (g' : Nat → Nat), okS c = true ∧ (∀ x ∈ lettersN, g' x + (if c = x then 1 else 0) = g x) ∧ Dr H' p q ∧ KP p H H' ∧ H' d = some (.dK (dictV lettersN g')) ∧ H' l = some (.lst (ps.map V.str)) ∧ σ' = [some (.ref p), some (.int (n : Nat)), some (.int (r : Nat)), some (.int (m : Nat)), some (.int (e : Nat)), some (.ref d), some (.ref l), some (.int (0 + (i : Int))), some (.str z), some (.int (0 + (k : Int))), some (.str (sg c))], ?_, ?_⟩
      · refine ⟨_, rfl, _, rfl, d, _, rfl, .inl ⟨_, .inr (sg c0), Rd.of hd7, rfl, rfl⟩, _, rfl, ?_⟩
        rw [dict_val]
        by_cases hm : c0 ∈ lettersN
        · rw [if_pos hm]
          refine iteP rfl ?_
          refine ⟨_, rfl, _, rfl, d, V.int (g c0 : Nat), rfl, .inl ⟨_, .inr (sg c0), Rd.of hd7, rfl, by rw [dict_val, if_pos hm]⟩, rfl, _, rfl, ?_⟩
          refine iteB (fun hz0 => ?_) fun hz0 => ?_
          · refine ⟨48, g, rfl, fun x hx => ?_, d7, kp7, hd7, hl7, rfl⟩
            have : ¬ 48 = x := fun z => by rw [← z] at hx; exact absurd hx (by decide)
            rw [if_neg this]; rfl
          · have hpos : 1 ≤ g c0 := by
              have := of_decide_eq_false hz0
              refine Nat.one_le_iff_ne_zero.mpr fun z => this ?_
              rw [z]; rfl
            refine ⟨_, rfl, _, rfl, d, V.int (g c0 : Nat), rfl, .inl ⟨_, .inr (sg c0), Rd.of hd7, rfl, by rw [dict_val, if_pos hm]⟩, _, _, rfl, rfl, _, rfl, _, rfl, d, _, rfl, .inl ⟨_, .inr (sg c0), hd7, rfl, by unfold dictV; rw [List.length_map]; show 5 < _; omega, rfl⟩, ?_⟩
            refine ⟨c0, fun c => if c = c0 then g c0 - 1 else g c, hok0, fun x hx => ?_, drk _ _ _ dp dq d7, fun b' o h hb => by rw [upd_ne (nD b' o h)]; exact kp7 _ _ h hb, ?_, by rw [upd_ne ld]; exact hl7, rfl⟩
            · by_cases ex : c0 = x
              · subst ex
                show (if c0 = c0 then g c0 - 1 else g c0) + _ = _
                rw [if_pos rfl, if_pos rfl]; omega
              · show (if x = c0 then g c0 - 1 else g x) + _ = _
                rw [if_neg ex, if_neg fun (z : x = c0) => ex z.symm]; rfl
            · rw [upd_same]
              refine congrArg (fun z => some (HO.dK z)) ?_
              have := dict_put (g := g) (v := g c0 - 1) hm
              rw [show (((g c0 - 1 : Nat) : Nat) : Int) = (g c0 : Nat) - 1 by omega] at this
              exact this
        · rw [if_neg hm]
          refine iteN (by intro z; cases z) ?_
          refine ⟨c0, g, hok0, fun x hx => ?_, d7, kp7, hd7, hl7, rfl⟩
          have : ¬ c0 = x := fun z => hm (z ▸ hx)
          rw [if_neg this]; rfl
      · rintro σ' H' ⟨c, g', hok, hg', d8, kp8, hd8, hl8, rfl⟩
        refine ⟨_, rfl, _, rfl, z, sg c, rfl, rfl, by show z.length + 1 ≤ _; omega, ?_⟩
        refine ⟨d8, kp8, hl8, z ++ sg c, g', _, _, by rw [app_len, hz]; rfl, fun x hx => ?_, hd8, fun x hx => ?_, rfl⟩
        · rw [app_l] at hx
          rcases List.mem_append.mp hx with hx | hx
          · exact hzok x hx
          · have : (sg c).cps.toList = [c] := rfl
            rw [this] at hx
            rw [List.mem_singleton.mp hx]; exact hok
        · have h1 := hg x hx
          have h2 := hg' x hx
          have e3 : (z ++ sg c).cps.toList.count x = z.cps.toList.count x + if c = x then 1 else 0 := by
            rw [app_l, List.count_append]
            have : (sg c).cps.toList = [c] := rfl
            rw [this]
            by_cases ex : c = x
            · simp [ex]
            · simp [ex]
          omega
    · rintro σ H6 ⟨d6, kp6, hl6, z, g, v9, v10, hz, hzok, hd6, hg, rfl⟩
      refine ⟨_, rfl, .inl ⟨rfl, _, SqL.of hl6⟩, _, rfl, l, _, _, rfl, rfl, hl6, by rw [List.length_map]; omega, ?_⟩
      refine ⟨drk _ _ _ lp lq d6, fun b' o h hb => by rw [upd_ne (nL b' o h)]; exact kp6 _ _ h hb, ⟨ps ++ [z], g, by rw [upd_same, List.map_append]; rfl, by simp [hpl], fun y hy => ?_, by rw [upd_ne ld.symm]; exact hd6, fun c hc => ?_⟩, _, _, _, _, rfl⟩
      · rcases List.mem_append.mp hy with hy | hy
        · exact hpok y hy
        · rw [List.mem_singleton.mp hy]; exact ⟨by rw [hz, Int.toNat_natCast], hzok⟩
      · have := hg c hc
        have e3 : (pls (ps ++ [z])).flatten.count c = (pls ps).flatten.count c + z.cps.toList.count c := by
          unfold pls
          rw [List.map_append, List.flatten_append, List.count_append]
          show _ + List.count c (z.cps.toList ++ []) = _
          rw [List.append_nil]
        omega
  · rintro σ H5 ⟨d5, kp5, ⟨ps, g, hl5, hpl, hpok, hd5, hg⟩, v7, v8, v9, v10, rfl⟩
    rw [Int.toNat_natCast] at hpl
    exact ⟨_, rfl, k _ l ps d5 kp5 lN hl5 (patsOk_of (e := e) (by omega) (by omega) hpok he (by omega) fun c hc => by have := hg c hc; omega)⟩
end
end My

/-! LP -/
namespace My
open PySem L2
local macro_rules | `(tactic| walk_at "side") => `(tactic| first | with_reducible rfl | assumption | rfl | decide | omega | exact cpow1 (by omega) (by omega) | exact cdiv (by omega) (by omega) | exact two_pos _ | exact SqL.of (by assumption) | exact SqT.of (by assumption) | exact TyX.base (TyOf.int _) | exact TyX.base (TyOf.bl _) | exact TyX.base TyOf.non | exact scal_opt _ _ | exact k_ii | exact k_bi | exact k_ni | exact k_ib | exact k_bb | exact TyX.base (TyOf.lst (by assumption)) | exact k_ll | exact k_lt)
local macro_rules | `(tactic| walk_at "p") => `(tactic| repeat (first | refine And.intro (by walk_at "side") ?_ | apply Exists.intro | refine iteN (by assumption) ?_ | refine iteP (by assumption) ?_ | refine iteN (by decide) ?_ | refine iteP (by decide) ?_))

def opsL : List Op := [.add, .xor, .sub, .and, .same, .or, .less]
/-- a line's name as the law says it -/
def kdLw (k : Nat) : Str := if 4 ≤ k ∧ k ≤ 10 then "op" else kdNm k
def lwNm (l : Ln) : Str := kdLw l.kd
def kindsL : List Str := ["get", "num", "op", "must", "write", "out", "in", "put", "read", "goto", "here", "next"]
def firstOk : List Str := ["get", "num", "here", "next", "in"]
theorem Dr.nlist {H : Hp} {p q l : Addr} {xs : List V} (d : Dr H p q) (h : H l = none) : l ≠ p := fun z => by obtain ⟨_, _, e, _⟩ := d; rw [z, e] at h; cases h
theorem Dr.at {H : Hp} {p q : Addr} (d : Dr H p q) : ∃ k : Nat, H p = some (.lst [.int (k : Int), .ref q]) := by obtain ⟨_, k, e, _⟩ := d; exact ⟨k, e⟩
/-- a list that is not the draws -/
theorem Dr.ne_of {H : Hp} {p q l : Addr} {xs : List V} (d : Dr H p q) (h : H l = some (.lst xs)) (hx : ∀ (k : Int), xs ≠ [.int k, .ref q]) : l ≠ p := fun z => by
  obtain ⟨k, e⟩ := d.at
  rw [z, e] at h
  exact hx k (HO.lst.inj (Option.some.inj h)).symm
section
variable {P : Program} {w : World} {K : PySem.W.Frag} {mg : Str → Option Value} {base : Heap}
def sp_law_ops (_ : Txt w K mg) : Sp := fun vs H Q _ => vs = [] ∧ ∀ l, H l = none → Q (.ref l) (upd H l (.lst (opsL.map fun o => V.str o.s)))
theorem sp_law_ops_len {T : Txt w K mg} {vs H Q E} (h : sp_law_ops T vs H Q E) : vs.length = 0 := by obtain ⟨rfl, _⟩ := h; rfl
theorem ok_law_ops (T : Txt w K mg) : FnOk P w K mg base CX0 1 T.f_law_ops T.fd_law_ops [] (sp_law_ops T) := by
  skip
  refine T.F_law_ops.ok sc_law_ops (fun vs H Q E h => sp_law_ops_len h) (fun cdv A outer s H vs Q E hr h => ?_)
  obtain ⟨rfl, k⟩ := h
  have sz : sizeLine = 16777216 := sizeLine_eq
  refine ⟨_, (pss_one (ps_ret (pe_lst (pa_cons pe_str (pa_cons pe_str (pa_cons pe_str (pa_cons pe_str (pa_cons pe_str (pa_cons pe_str (pa_cons pe_str pa_nil)))))))))), ?_⟩
  exact ⟨by show 7 ≤ _; omega, fun l l0 => k l l0⟩
def sp_law_is_code (_ : Txt w K mg) : Sp := fun vs H Q _ => ∃ (u b : Addr) (xs : List Int), vs = [.ref u, .ref b] ∧ H u = some (.tup (intsV xs)) ∧ H b = some (.lst (intsV xs)) ∧ xs.length ≤ 1000 ∧ Q (.bl true) H
theorem sp_law_is_code_len {T : Txt w K mg} {vs H Q E} (h : sp_law_is_code T vs H Q E) : vs.length = 2 := by obtain ⟨_, _, _, rfl, _⟩ := h; rfl
theorem shI' (i : Int) : SeqAt.shaped (.int i) = true := by simp [SeqAt.shaped, PyData.canLay0, PyData.depth]
theorem neI' {K : PySem.W.Frag} {H : Hp} {i : Int} {Q : VK} (k : Q (.bl false) H) : rNeD K (.int i) (.int i) H Q := ⟨_, _, .int i, .int i, shI' i, shI' i, by rw [show PyData.eqv (.int i) (.int i) = true by simp [PyData.eqv]]; exact k⟩
theorem ok_law_is_code (T : Txt w K mg) : FnOk P w K mg base CX0 2 T.f_law_is_code T.fd_law_is_code ["_law_thing", "_law_code"] (sp_law_is_code T) := by
  have G_law_is_int := ok_law_is_int (P := P) (w := w) (base := base) T
  refine T.F_law_is_code.ok sc_law_is_code (fun vs H Q E h => sp_law_is_code_len h) (fun cdv A outer s H vs Q E hr h => ?_)
  obtain ⟨u, b, xs, rfl, hu, hb, hl, k⟩ := h
  refine ⟨_, (pss_cons (ps_if (PW.pt (pw_or (pt_not (pt_val (pe_callB call_isTy (by rfl) T.n_isinstance (by decide +kernel) (pa_cons (pv 0) (pa_cons (pe_bltn (v := .ty "tuple") (by rfl) T.n_tuple (by decide +kernel) rfl) pa_nil))))) (pw_or1 (pt_cmpR op_ne (pe_callB call_lenT (by rfl) T.n_len (by decide +kernel) (pa_cons (pv 0) pa_nil)) (pe_callB call_lenL (by rfl) T.n_len (by decide +kernel) (pa_cons (pv 1) pa_nil)) (nomark _)))))
        (pss_one (ps_ret pe_bl))
        pss_nil)
       (pss_cons (ps_for PassesOwn.never rfl (pi_range1 (by rfl) T.n_range (pa_cons (pe_callB call_lenL (by rfl) T.n_len (by decide +kernel) (pa_cons (pv 1) pa_nil)) pa_nil)) (pg_name (i := 2) sc_law_is_code.nd rfl (Or.inl rfl))
        (pss_one (ps_if (PW.pt (pw_or (pt_not (pt_val (pe_call G_law_is_int hr rfl T.g_law_is_int T.F_law_is_int.kp T.b_law_is_int .nil pass0 (pa_cons (pe_ix ix_tup (pv 0) (pv 2) (fun _ _ => rfl)) pa_nil)))) (pw_or1 (pt_cmpR (op_neD hr.units) (pe_ix ix_tup (pv 0) (pv 2) (fun _ _ => rfl)) (pe_ix ix_list (pv 1) (pv 2) (fun _ _ => rfl)) (nomark _)))))
        (pss_one (ps_ret pe_bl))
        pss_nil)))
       (pss_one (ps_ret pe_bl)))), ?_⟩
  refine ⟨_, rfl, _, _, _, rfl, .base (.tup hu), _, k_tt, _, rfl, iteN (by decide) ?_⟩
  refine ⟨_, rfl, u, _, rfl, SqT.of hu, _, rfl, b, _, rfl, SqL.of hb, rfl, _, rfl, iteN (by simp) ?_⟩
  refine ⟨_, rfl, b, _, rfl, SqL.of hb, _, rfl, by rw [intsV_len]; omega, by rw [intsV_len]; omega, ?_⟩
  refine for_range (lo := 0) (n := (((intsV xs).length : Nat) : Int).toNat) (fun i σ H1 => H1 = H ∧ ∃ v2 : Option V, σ = [some (.ref u), some (.ref b), v2]) ⟨rfl, none, rfl⟩ ?_ ?_
  · rintro i σ H1 hi ⟨rfl, v2, rfl⟩
    rw [Int.toNat_natCast, intsV_len] at hi
    obtain ⟨x, hx⟩ := getElem_lt xs hi
    have hat : atI (intsV xs) (0 + (i : Int)) = some (.int x) := by
      rw [show (0 + (i : Int)) = (i : Int) by omega]
      exact atI_nat (intsV_at hx)
    refine ⟨_, rfl, _, rfl, u, _, _, _, rfl, rfl, SqT.of hu, hat, _, rfl, rfl, _, rfl, iteN (by intro z; cases z) ?_⟩
    refine ⟨_, rfl, _, rfl, u, _, _, _, rfl, rfl, SqT.of hu, hat, _, rfl, _, rfl, b, _, _, _, rfl, rfl, SqL.of hb, hat, neI' ⟨_, rfl, iteN (by decide) ?_⟩⟩
    exact ⟨rfl, _, rfl⟩
  · rintro σ H1 ⟨rfl, v2, rfl⟩
    exact k
def sp_law_line (_ : Txt w K mg) : Sp := fun vs H Q _ => ∃ (p q rb nb vb : Addr) (nm : Str) (RG : List Rg) (NL N L : List Nat) (n r : Nat), vs = [.ref p, .str nm, .ref rb, .ref nb, .ref vb, .int (n : Nat)] ∧ Dr H p q ∧ p ≠ q ∧
  H rb = some (.lst (RG.map Rg.v)) ∧ RG ≠ [] ∧ RG.length ≤ 20 ∧ (∀ a ∈ RG, regR r L a) ∧ rb ≠ p ∧ H nb = some (.lst (NL.map fun c => V.str (sg c))) ∧ NL.length ≤ 20 ∧ (∀ c ∈ NL, numR n L (.l c)) ∧ nb ≠ p ∧ H vb = some (.lst (natsV N)) ∧ N.length ≤ 20 ∧ vb ≠ p ∧
  nm ∈ kindsL ∧ (N = [] → nm ∈ firstOk) ∧ 2 ≤ n ∧ n ≤ 12 ∧
  ∀ H' u l, Dr H' p q → KP p H H' → H u = none → H' u = some (.tup l.vals) → LnOk n r L N l → lwNm l = nm → Q (.ref u) H'
theorem sp_law_line_len {T : Txt w K mg} {vs H Q E} (h : sp_law_line T vs H Q E) : vs.length = 6 := by obtain ⟨_, _, _, _, _, _, _, _, _, _, _, _, rfl, _⟩ := h; rfl
theorem natsV_at {L : List Nat} {i x : Nat} (h : L[i]? = some x) : (natsV L)[i]? = some (.int (x : Nat)) := by unfold natsV; rw [List.getElem?_map, h]; rfl
theorem ok_law_line (T : Txt w K mg) : FnOk P w K mg base CX0 3 T.f_law_line T.fd_law_line ["_law_draws_here", "_law_name", "_law_regs", "_law_nums", "_law_values", "_law_word_here"] (sp_law_line T) := by
  have G_law_ops := ok_law_ops (P := P) (w := w) (base := base) T; have G_law_take := ok_law_take (P := P) (w := w) (base := base) T; have G_law_word := ok_law_word (P := P) (w := w) (base := base) T
  refine T.F_law_line.ok sc_law_line (fun vs H Q E h => sp_law_line_len h) (fun cdv A outer s H vs Q E hr h => ?_)
  obtain ⟨p, q, rb, nb, vb, nm, RG, NL, N, L, n, r, rfl, hd, hpq, hrb, hR0, hR20, hRok, rp, hnb, hN20, hNok, np, hvb, hV20, vp, hnm, hfirst, n2, n12, k⟩ := h
  have sz : sizeLine = 16777216 := sizeLine_eq
  have r0 : 0 < RG.length := List.length_pos_iff.mpr hR0
  refine ⟨_, (pss_cons (ps_set (i := 6) sc_law_line.nd rfl (Or.inl rfl) pe_int)
       (pss_cons (ps_set (i := 7) sc_law_line.nd rfl (Or.inl rfl) pe_int)
       (Evl.pss_cut (ps_if (pt_cmpR op_gt (pe_callB call_lenL (by rfl) T.n_len (by decide +kernel) (pa_cons (pv 4) pa_nil)) pe_int (nomark _))
        (pss_cons (ps_set (i := 6) sc_law_line.nd rfl (Or.inl rfl) (pe_ix ix_list (pv 4) (pe_op op_sub (pe_op op_sub (pe_callB call_lenL (by rfl) T.n_len (by decide +kernel) (pa_cons (pv 4) pa_nil)) pe_int) (pe_call G_law_take (hr.mono (by decide)) rfl T.g_law_take T.F_law_take.kp T.b_law_take .nil pass0 (pa_cons (pv 0) (pa_cons (pe_callB (call_min2 rfl) (by rfl) T.n_min (by decide +kernel) (pa_cons pe_int (pa_cons (pe_callB call_lenL (by rfl) T.n_len (by decide +kernel) (pa_cons (pv 4) pa_nil)) pa_nil))) pa_nil)))) (fun _ _ => rfl)))
       (pss_one (ps_set (i := 7) sc_law_line.nd rfl (Or.inl rfl) (pe_ix ix_list (pv 4) (pe_call G_law_take (hr.mono (by decide)) rfl T.g_law_take T.F_law_take.kp T.b_law_take .nil pass0 (pa_cons (pv 0) (pa_cons (pe_callB call_lenL (by rfl) T.n_len (by decide +kernel) (pa_cons (pv 4) pa_nil)) pa_nil))) (fun _ _ => rfl)))))
        pss_nil)
       (pss_cons (ps_if (pt_cmpR op_eq (pv 1) pe_str (nomark _))
        (pss_one (ps_ret (pe_tup (pa_cons pe_str (pa_cons (pe_ix ix_list (pv 2) (pe_call G_law_take (hr.mono (by decide)) rfl T.g_law_take T.F_law_take.kp T.b_law_take .nil pass0 (pa_cons (pv 0) (pa_cons (pe_callB call_lenL (by rfl) T.n_len (by decide +kernel) (pa_cons (pv 2) pa_nil)) pa_nil))) (fun _ _ => rfl)) pa_nil)))))
        pss_nil)
       (pss_cons (ps_if (pt_cmpR op_eq (pv 1) pe_str (nomark _))
        (pss_cons (ps_if (PW.pt (pw_and (pt_cmpR op_gt (pe_callB call_lenL (by rfl) T.n_len (by decide +kernel) (pa_cons (pv 3) pa_nil)) pe_int (nomark _)) (pw_and1 (pt_cmpR op_gt (pe_call G_law_take (hr.mono (by decide)) rfl T.g_law_take T.F_law_take.kp T.b_law_take .nil pass0 (pa_cons (pv 0) (pa_cons pe_int pa_nil))) pe_int (nomark _)))))
        (pss_one (ps_ret (pe_tup (pa_cons pe_str (pa_cons (pe_ix ix_list (pv 3) (pe_call G_law_take (hr.mono (by decide)) rfl T.g_law_take T.F_law_take.kp T.b_law_take .nil pass0 (pa_cons (pv 0) (pa_cons (pe_callB call_lenL (by rfl) T.n_len (by decide +kernel) (pa_cons (pv 3) pa_nil)) pa_nil))) (fun _ _ => rfl)) pa_nil)))))
        pss_nil)
       (pss_one (ps_ret (pe_tup (pa_cons pe_str (pa_cons (pe_call G_law_word hr rfl T.g_law_word T.F_law_word.kp T.b_law_word .nil pass0 (pa_cons (pv 0) (pa_cons (pv 5) pa_nil))) pa_nil))))))
        pss_nil)
       (pss_cons (ps_if (pt_cmpR op_eq (pv 1) pe_str (nomark _))
        (pss_one (ps_ret (pe_tup (pa_cons (pe_ix ix_list (pe_call0 G_law_ops (hr.mono (by decide)) rfl T.g_law_ops T.F_law_ops.kp T.b_law_ops .nil pass0) (pe_call G_law_take (hr.mono (by decide)) rfl T.g_law_take T.F_law_take.kp T.b_law_take .nil pass0 (pa_cons (pv 0) (pa_cons pe_int pa_nil))) (fun _ _ => rfl)) (pa_cons (pv 6) (pa_cons (pv 7) pa_nil))))))
        pss_nil)
       (pss_cons (ps_if (pt_cmpR op_eq (pv 1) pe_str (nomark _))
        (pss_one (ps_ret (pe_tup (pa_cons pe_str (pa_cons (pv 6) (pa_cons (pe_op op_add pe_int (pe_call G_law_take (hr.mono (by decide)) rfl T.g_law_take T.F_law_take.kp T.b_law_take .nil pass0 (pa_cons (pv 0) (pa_cons pe_int pa_nil)))) pa_nil))))))
        pss_nil)
       (pss_cons (ps_if (pt_cmpR op_eq (pv 1) pe_str (nomark _))
        (pss_one (ps_ret (pe_tup (pa_cons pe_str (pa_cons (pv 6) (pa_cons (pv 7) pa_nil))))))
        pss_nil)
       (pss_cons (ps_if (pt_cmpR op_eq (pv 1) pe_str (nomark _))
        (pss_one (ps_ret (pe_tup (pa_cons pe_str (pa_cons (pe_call G_law_take (hr.mono (by decide)) rfl T.g_law_take T.F_law_take.kp T.b_law_take .nil pass0 (pa_cons (pv 0) (pa_cons pe_int pa_nil))) (pa_cons (pv 6) pa_nil))))))
        pss_nil)
       (pss_cons (ps_if (pt_cmpR op_eq (pv 1) pe_str (nomark _))
        (pss_one (ps_ret (pe_tup (pa_cons pe_str (pa_cons (pe_call G_law_take (hr.mono (by decide)) rfl T.g_law_take T.F_law_take.kp T.b_law_take .nil pass0 (pa_cons (pv 0) (pa_cons pe_int pa_nil))) pa_nil)))))
        pss_nil)
       (pss_cons (ps_if (pt_cmpR op_eq (pv 1) pe_str (nomark _))
        (pss_one (ps_ret (pe_tup (pa_cons pe_str (pa_cons (pe_ix ix_list (pv 2) (pe_call G_law_take (hr.mono (by decide)) rfl T.g_law_take T.F_law_take.kp T.b_law_take .nil pass0 (pa_cons (pv 0) (pa_cons (pe_callB call_lenL (by rfl) T.n_len (by decide +kernel) (pa_cons (pv 2) pa_nil)) pa_nil))) (fun _ _ => rfl)) (pa_cons (pv 6) pa_nil))))))
        pss_nil)
       (pss_cons (ps_if (PW.pt (pw_or (pt_cmpR op_eq (pv 1) pe_str (nomark _)) (pw_or1 (pt_cmpR op_eq (pv 1) pe_str (nomark _)))))
        (pss_one (ps_ret (pe_tup (pa_cons (pv 1) (pa_cons (pv 6) pa_nil)))))
        pss_nil)
       (pss_one (ps_ret (pe_tup (pa_cons (pv 1) pa_nil)))))))))))))))), ?_⟩
  refine ⟨fun σ' H' => Dr H' p q ∧ KP p H H' ∧ ∃ i j : Nat, (N ≠ [] → i ∈ N ∧ j ∈ N) ∧ σ' = [some (.ref p), some (.str nm), some (.ref rb), some (.ref nb), some (.ref vb), some (.int (n : Nat)), some (.int (i : Nat)), some (.int (j : Nat))], ?_, ?_⟩
  · refine ⟨_, rfl, vb, _, rfl, SqL.of hvb, _, _, rfl, rfl, _, rfl, ?_⟩
    rw [natsV_len]
    refine iteB (fun c => ?_) fun c => ?_
    · have hlen : 0 < N.length := by have := of_decide_eq_true c; omega
      refine ⟨_, rfl, _, rfl, vb, _, rfl, SqL.of hvb, _, _, rfl, rfl, ?_⟩
      rw [natsV_len]
      refine ⟨_, rfl, _, rfl, vb, _, rfl, SqL.of hvb, _, _, rfl, ?_⟩
      rw [natsV_len]
      have hm : ∀ m : Int, m = (if ((N.length : Nat) : Int) < 3 then ((N.length : Nat) : Int) else 3) → 0 < m ∧ m ≤ N.length := fun m e => by
        rw [e]; split <;> omega
      obtain ⟨m0, m1⟩ := hm _ rfl
      refine ⟨p, q, _, rfl, hd, hpq, m0, fun H1 v v0 v1 d1 k1 => ?_⟩
      have hvb1 := k1 _ _ hvb vp
      obtain ⟨i, hi⟩ := getElem_lt N (i := ((N.length : Int) - 1 - v).toNat) (by omega)
      refine ⟨_, _, rfl, rfl, vb, _, _, _, rfl, rfl, SqL.of hvb1, atI_int (by omega) (natsV_at hi), ?_⟩
      refine ⟨_, rfl, _, rfl, _, rfl, vb, _, rfl, SqL.of hvb1, ?_⟩
      rw [natsV_len]
      refine ⟨p, q, _, rfl, d1, hpq, by omega, fun H2 x x0 x1 d2 k2 => ?_⟩
      obtain ⟨j, hj⟩ := getElem_lt N (i := x.toNat) (by omega)
      refine ⟨vb, _, _, _, rfl, rfl, SqL.of (k2 _ _ hvb1 vp), atI_int x0 (natsV_at hj), ?_⟩
      exact ⟨d2, KP.trans k1 k2, i, j, fun _ => ⟨List.mem_of_getElem? hi, List.mem_of_getElem? hj⟩, rfl⟩
    · have hlen : N = [] := List.length_eq_zero_iff.mp (by have := of_decide_eq_false c; omega)
      exact ⟨hd, KP.of (Same.refl _), 0, 0, fun h => absurd hlen h, rfl⟩
  rintro σ' H1 ⟨d1, k1, i, j, hij, rfl⟩
  have hrb1 := k1 _ _ hrb rp
  have hnb1 := k1 _ _ hnb np
  have back : ∀ (H2 : Hp) (u : Addr), KP p H H2 → Dr H2 p q → H2 u = none → H u = none := fun H2 u kk dd e => by
    cases h : H u with
    | none => rfl
    | some o =>
      have up : u ≠ p := fun z => by obtain ⟨_, _, e2, _⟩ := dd; rw [z, e2] at e; cases e
      rw [kk _ _ h up] at e; cases e
  -- a new tuple is the line
  have fin : ∀ (H2 : Hp) (l : Ln), KP p H H2 → Dr H2 p q → LnOk n r L N l → lwNm l = nm → ∀ u, H2 u = none → Q (.ref u) (upd H2 u (.tup l.vals)) := fun H2 l kk dd h1 h2 u u0 =>
    k _ u l (dd.news (same_new u0)) (KP.trans kk (KP.of (same_new u0))) (back _ _ kk dd u0) upd_same h1 h2
  have reg : ∀ (H2 : Hp) (v : Int), 0 ≤ v → v < (RG.length : Nat) → ∃ a, regR r L a ∧ atI (RG.map Rg.v) v = some a.v := fun H2 v v0 v1 => by
    obtain ⟨a, ha⟩ := getElem_lt RG (i := v.toNat) (by omega)
    exact ⟨a, hRok a (List.mem_of_getElem? ha), atI_int v0 (by rw [List.getElem?_map, ha]; rfl)⟩
  have ne0 : nm ∉ firstOk → i ∈ N ∧ j ∈ N := fun h => hij fun e => h (hfirst e)
  have opAt : ∀ v : Int, 0 ≤ v → v < 7 → ∃ o : Op, atI (opsL.map fun o : Op => V.str o.s) v = some (.str o.s) := fun v v0 v1 => by
    obtain ⟨o, ho⟩ := getElem_lt opsL (i := v.toNat) (by show v.toNat < 7; omega)
    exact ⟨o, atI_int v0 (by rw [List.getElem?_map, ho]; rfl)⟩
  have lwOp : ∀ (o : Op) (a b : Nat), lwNm (.op o a b) = "op" := fun o a b => by cases o <;> rfl
  simp only [kindsL, List.mem_cons, List.not_mem_nil, or_false] at hnm
  rcases hnm with rfl | rfl | rfl | rfl | rfl | rfl | rfl | rfl | rfl | rfl | rfl | rfl
  · -- get
    refine ⟨_, rfl, rfl, _, rfl, iteP (by decide) ?_⟩
    refine ⟨_, rfl, _, rfl, _, rfl, rb, _, rfl, SqL.of hrb1, p, q, _, rfl, d1, hpq, by rw [List.length_map]; omega, fun H2 v v0 v1 d2 k2 => ?_⟩
    rw [List.length_map] at v1
    obtain ⟨a, ha, hat⟩ := reg H2 v v0 v1
    refine ⟨rb, _, _, _, rfl, rfl, SqL.of (k2 _ _ hrb1 rp), hat, by show 2 ≤ _; omega, fun u u0 => ?_⟩
    exact fin _ (.get a) (KP.trans k1 k2) d2 ha rfl u u0
  · -- num
    refine ⟨_, rfl, rfl, _, rfl, iteN (by decide) ?_⟩
    refine ⟨_, rfl, rfl, _, rfl, iteP (by decide) ?_⟩
    refine ⟨_, rfl, nb, _, rfl, SqL.of hnb1, _, _, rfl, rfl, _, rfl, ?_⟩
    rw [List.length_map]
    have wd' : ∀ H2, KP p H H2 → Dr H2 p q → ∀ R : VK, (∀ H' (v : Int), 0 ≤ v → v < 2 ^ n → Dr H' p q → KP p H H' → R (.int v) H') → sp_law_word T [.ref p, .int (n : Nat)] H2 R (fun _ _ _ => False) := fun H2 kk dd R h => ⟨p, q, n, rfl, dd, hpq, n2, n12, fun H' v v0 v1 d' k' => h H' v v0 v1 d' (KP.trans kk k')⟩
    have word : ∀ (H3 : Hp) (v : Int), 0 ≤ v → v < 2 ^ n → Dr H3 p q → KP p H H3 → 2 ≤ sizeLine ∧ ∀ u, H3 u = none → Q (.ref u) (upd H3 u (.tup [.str "num", .int v])) := fun H3 v v0 v1 dd kk => by
      refine ⟨by omega, fun u u0 => ?_⟩
      have e : ((2 ^ n : Nat) : Int) = 2 ^ n := Int.natCast_pow 2 n
      have := fin H3 (.num (.n v.toNat)) kk dd (by show v.toNat < 2 ^ n; omega) rfl u u0
      rw [show (Ln.num (.n v.toNat)).vals = [.str "num", .int v] by show [V.str "num", V.int (v.toNat : Nat)] = _; rw [Int.toNat_of_nonneg v0]] at this
      exact this
    refine iteB (fun c => ?_) fun c => ?_
    · have hlen := of_decide_eq_true c
      refine ⟨_, rfl, p, q, _, rfl, d1, hpq, by decide, fun H2 v v0 v1 d2 k2 => ?_⟩
      refine ⟨_, _, rfl, rfl, _, rfl, ite2d (fun _ => ?_) fun _ => ?_⟩
      · refine ⟨_, rfl, _, rfl, _, rfl, nb, _, rfl, SqL.of (k2 _ _ hnb1 np), p, q, _, rfl, d2, hpq, by rw [List.length_map]; omega, fun H3 x x0 x1 d3 k3 => ?_⟩
        rw [List.length_map] at x1
        obtain ⟨cc, hc⟩ := getElem_lt NL (i := x.toNat) (by omega)
        refine ⟨nb, _, _, _, rfl, rfl, SqL.of (k3 _ _ (k2 _ _ hnb1 np) np), atI_int x0 (by rw [List.getElem?_map, hc]; rfl), by show 2 ≤ _; omega, fun u u0 => ?_⟩
        exact fin _ (.num (.l cc)) (KP.trans k1 (KP.trans k2 k3)) d3 (hNok cc (List.mem_of_getElem? hc)) rfl u u0
      · refine ⟨_, rfl, _, rfl, p, q, n, rfl, d2, hpq, n2, n12, fun H3 x x0 x1 d3 k3 => ?_⟩
        exact word H3 x x0 x1 d3 (KP.trans k1 (KP.trans k2 k3))
    · refine iteN (by decide) ?_
      refine ⟨_, rfl, _, rfl, p, q, n, rfl, d1, hpq, n2, n12, fun H3 x x0 x1 d3 k3 => ?_⟩
      exact word H3 x x0 x1 d3 (KP.trans k1 k3)
  · -- op
    obtain ⟨hi, hj⟩ := ne0 (by decide +kernel)
    iterate 2 refine ⟨_, rfl, rfl, _, rfl, iteN (by decide) ?_⟩
    refine ⟨_, rfl, rfl, _, rfl, iteP (by decide) ?_⟩
    refine ⟨rfl, fun ob ob0 => ?_⟩
    have so := same_new (o := .lst (opsL.map fun o => V.str o.s)) ob0
    have obp := (d1.nlist (xs := []) ob0)
    refine ⟨_, rfl, p, q, _, rfl, d1.news so, hpq, by decide, fun H2 v v0 v1 d2 k2 => ?_⟩
    obtain ⟨o, ho⟩ := opAt v v0 v1
    refine ⟨ob, _, _, _, rfl, rfl, SqL.of (k2 _ _ upd_same obp), ho, _, rfl, _, rfl, by show 3 ≤ _; omega, fun u u0 => ?_⟩
    exact fin _ (.op o i j) (KP.trans k1 (KP.trans (KP.of so) k2)) d2 ⟨hi, hj⟩ (lwOp o i j) u u0
  · -- must
    obtain ⟨hi, hj⟩ := ne0 (by decide +kernel)
    iterate 3 refine ⟨_, rfl, rfl, _, rfl, iteN (by decide) ?_⟩
    refine ⟨_, rfl, rfl, _, rfl, iteP (by decide) ?_⟩
    refine ⟨_, rfl, _, rfl, p, q, _, rfl, d1, hpq, by decide, fun H2 v v0 v1 d2 k2 => ⟨_, _, rfl, rfl, by show 3 ≤ _; omega, fun u u0 => ?_⟩⟩
    have := fin H2 (.must i (12 + v).toNat) (KP.trans k1 k2) d2 ⟨hi, by omega, by omega⟩ rfl u u0
    rw [show (Ln.must i (12 + v).toNat).vals = [.str "must", .int (i : Nat), .int (12 + v)] by show [V.str "must", V.int (i : Nat), V.int ((12 + v).toNat : Nat)] = _; rw [Int.toNat_of_nonneg (by omega)]] at this
    exact this
  · -- write
    obtain ⟨hi, hj⟩ := ne0 (by decide +kernel)
    iterate 4 refine ⟨_, rfl, rfl, _, rfl, iteN (by decide) ?_⟩
    refine ⟨_, rfl, rfl, _, rfl, iteP (by decide) ?_⟩
    refine ⟨_, rfl, _, rfl, by show 3 ≤ _; omega, fun u u0 => ?_⟩
    exact fin H1 (.write i j) k1 d1 ⟨hi, hj⟩ rfl u u0
  · -- out
    obtain ⟨hi, hj⟩ := ne0 (by decide +kernel)
    iterate 5 refine ⟨_, rfl, rfl, _, rfl, iteN (by decide) ?_⟩
    refine ⟨_, rfl, rfl, _, rfl, iteP (by decide) ?_⟩
    refine ⟨_, rfl, p, q, _, rfl, d1, hpq, by decide, fun H2 v v0 v1 d2 k2 => ⟨_, rfl, by show 3 ≤ _; omega, fun u u0 => ?_⟩⟩
    have := fin H2 (.out v.toNat i) (KP.trans k1 k2) d2 ⟨by omega, hi⟩ rfl u u0
    rw [show (Ln.out v.toNat i).vals = [.str "out", .int v, .int (i : Nat)] by show [V.str "out", V.int (v.toNat : Nat), V.int (i : Nat)] = _; rw [Int.toNat_of_nonneg v0]] at this
    exact this
  · -- in
    iterate 6 refine ⟨_, rfl, rfl, _, rfl, iteN (by decide) ?_⟩
    refine ⟨_, rfl, rfl, _, rfl, iteP (by decide) ?_⟩
    refine ⟨_, rfl, p, q, _, rfl, d1, hpq, by decide, fun H2 v v0 v1 d2 k2 => ⟨by show 2 ≤ _; omega, fun u u0 => ?_⟩⟩
    have := fin H2 (.inp v.toNat) (KP.trans k1 k2) d2 (by show v.toNat < 6; omega) rfl u u0
    rw [show (Ln.inp v.toNat).vals = [.str "in", .int v] by show [V.str "in", V.int (v.toNat : Nat)] = _; rw [Int.toNat_of_nonneg v0]] at this
    exact this
  · -- put
    obtain ⟨hi, hj⟩ := ne0 (by decide +kernel)
    iterate 7 refine ⟨_, rfl, rfl, _, rfl, iteN (by decide) ?_⟩
    refine ⟨_, rfl, rfl, _, rfl, iteP (by decide) ?_⟩
    refine ⟨_, rfl, _, rfl, _, rfl, rb, _, rfl, SqL.of hrb1, p, q, _, rfl, d1, hpq, by rw [List.length_map]; omega, fun H2 v v0 v1 d2 k2 => ?_⟩
    rw [List.length_map] at v1
    obtain ⟨a, ha, hat⟩ := reg H2 v v0 v1
    refine ⟨rb, _, _, _, rfl, rfl, SqL.of (k2 _ _ hrb1 rp), hat, _, rfl, by show 3 ≤ _; omega, fun u u0 => ?_⟩
    exact fin _ (.put a i) (KP.trans k1 k2) d2 ⟨ha, hi⟩ rfl u u0
  · -- read
    obtain ⟨hi, hj⟩ := ne0 (by decide +kernel)
    iterate 8 refine ⟨_, rfl, rfl, _, rfl, iteN (by decide) ?_⟩
    refine ⟨_, rfl, rfl, _, rfl, iteP (by decide) (iteP (by decide) ?_)⟩
    refine ⟨_, rfl, _, rfl, by show 2 ≤ _; omega, fun u u0 => ?_⟩
    exact fin H1 (.read i) k1 d1 hi rfl u u0
  · -- goto
    obtain ⟨hi, hj⟩ := ne0 (by decide +kernel)
    iterate 8 refine ⟨_, rfl, rfl, _, rfl, iteN (by decide) ?_⟩
    refine ⟨_, rfl, rfl, _, rfl, iteN (by decide) ⟨_, rfl, rfl, _, rfl, iteP (by decide) ?_⟩⟩
    refine ⟨_, rfl, _, rfl, by show 2 ≤ _; omega, fun u u0 => ?_⟩
    exact fin H1 (.goto i) k1 d1 hi rfl u u0
  · -- here
    iterate 8 refine ⟨_, rfl, rfl, _, rfl, iteN (by decide) ?_⟩
    refine ⟨_, rfl, rfl, _, rfl, iteN (by decide) ⟨_, rfl, rfl, _, rfl, iteN (by decide) ?_⟩⟩
    refine ⟨_, rfl, by show 1 ≤ _; omega, fun u u0 => ?_⟩
    exact fin H1 .here k1 d1 trivial rfl u u0
  · -- next
    iterate 8 refine ⟨_, rfl, rfl, _, rfl, iteN (by decide) ?_⟩
    refine ⟨_, rfl, rfl, _, rfl, iteN (by decide) ⟨_, rfl, rfl, _, rfl, iteN (by decide) ?_⟩⟩
    refine ⟨_, rfl, by show 1 ≤ _; omega, fun u u0 => ?_⟩
    exact fin H1 .next k1 d1 trivial rfl u u0
end
end My

/-! LQ -/
namespace My
open PySem L2
local macro_rules | `(tactic| walk_at "side") => `(tactic| first | with_reducible rfl | assumption | rfl | decide | omega | exact cpow1 (by omega) (by omega) | exact cdiv (by omega) (by omega) | exact two_pos _ | exact SqL.of (by assumption) | exact SqT.of (by assumption) | exact TyX.base (TyOf.int _) | exact TyX.base (TyOf.bl _) | exact TyX.base TyOf.non | exact scal_opt _ _ | exact k_ii | exact k_bi | exact k_ni | exact k_ib | exact k_bb | exact TyX.base (TyOf.lst (by assumption)) | exact k_ll | exact k_lt)
local macro_rules | `(tactic| walk_at "p") => `(tactic| repeat (first | refine And.intro (by walk_at "side") ?_ | apply Exists.intro | refine iteN (by assumption) ?_ | refine iteP (by assumption) ?_ | refine iteN (by decide) ?_ | refine iteP (by decide) ?_))

def menuL : List Str := ["get", "num", "op", "must", "read", "write", "put", "op", "here", "out", "get", "goto", "in", "next", "must"]
theorem lw_all {P : Str → Nat → Bool} (h : (List.range 18).all (fun k => P (kdLw k) k) = true) (l : Ln) : P (lwNm l) l.kd = true := List.all_eq_true.mp h _ (List.mem_range.mpr (kd_lt l))
theorem sgMem (cs : List Nat) (c : Nat) (h : decide (sg c ∈ cs.map sg) = true) : c ∈ cs := by
  obtain ⟨d, hd, e⟩ := List.mem_map.mp (of_decide_eq_true h)
  unfold sg at e
  simp at e
  exact e ▸ hd
theorem lettersM_five (ps : List (List Nat)) (c : Nat) (h : c ∈ (lettersM ps).map Prod.fst) : c ∈ lettersN := by
  obtain ⟨g, hg, rfl⟩ := List.mem_map.mp h
  unfold lettersM at hg
  obtain ⟨c, hc, rfl⟩ := List.mem_map.mp hg
  exact (List.mem_filter.mp hc).1
theorem lw_E (l : Ln) : decide (lwNm l ∈ (["write", "out", "in"] : List Str)) = l.isE := by
  have h := lw_all (P := fun z k => decide (z ∈ (["write", "out", "in"] : List Str)) == (k == 12 || k == 14 || k == 15)) (by decide +kernel) l
  rw [eq_of_beq h]
  cases l with
  | op o i j => cases o <;> rfl
  | _ => rfl
theorem lw_G (l : Ln) : decide (V.str (lwNm l) = V.str "goto") = l.isG := by
  have h := lw_all (P := fun z k => decide (V.str z = V.str "goto") == (k == 17)) (by decide +kernel) l
  rw [eq_of_beq h]
  cases l with
  | op o i j => cases o <;> rfl
  | _ => rfl
theorem lw_V (l : Ln) : decide (lwNm l ∈ (["must", "write", "out", "put", "goto"] : List Str)) = !l.isV := by
  have h := lw_all (P := fun z k => decide (z ∈ (["must", "write", "out", "put", "goto"] : List Str)) == (k == 13 || k == 14 || k == 15 || k == 16 || k == 17)) (by decide +kernel) l
  rw [eq_of_beq h]
  cases l with
  | op o i j => cases o <;> rfl
  | _ => rfl
theorem LnsOk.snoc {n r : Nat} {L : List Nat} {ls : List Ln} {l : Ln} (h : LnsOk n r L ls) (hl : ls.length < 12) (ok : LnOk n r L (valsTo ls) l) (he : l.isE = true → ls.any Ln.isE = false) (hg : l.isG = true → ls.any Ln.isG = false) : LnsOk n r L (ls ++ [l]) := by
  have one : ∀ p : Ln → Bool, (ls.filter p).length ≤ 1 → (p l = true → ls.any p = false) → ((ls ++ [l]).filter p).length ≤ 1 := fun p h1 h2 => by
    rw [List.filter_append, List.length_append]
    cases hp : p l with
    | false => simpa [hp] using h1
    | true =>
      have : ls.filter p = [] := List.filter_eq_nil_iff.mpr fun a ha => by
        have := List.any_eq_false.mp (h2 hp) a ha
        exact this
      simp [this, hp]
  refine ⟨by rw [List.length_append, List.length_singleton]; omega, fun i x hx => ?_, one _ h.eff he, one _ h.gto hg⟩
  by_cases hi : i < ls.length
  · rw [List.getElem?_append_left hi] at hx
    rw [List.take_append_of_le_length (by omega)]
    exact h.ok i x hx
  · have hi2 := (List.getElem?_eq_some_iff.mp hx).1
    rw [List.length_append, List.length_singleton] at hi2
    have : i = ls.length := by omega
    subst this
    rw [List.getElem?_append_right (Nat.le_refl _), Nat.sub_self] at hx
    cases hx
    rw [List.take_append_of_le_length (Nat.le_refl _), List.take_length]
    exact ok
def RGj (A : List Nat) (j : Nat) : List Rg := A.map Rg.l ++ (List.range j).map Rg.n
theorem RGj_0 (A : List Nat) : (RGj A 0).map Rg.v = A.map fun c => V.str (sg c) := by unfold RGj; simp [Rg.v]
theorem RGj_s (A : List Nat) (j : Nat) : (RGj A (j + 1)).map Rg.v = (RGj A j).map Rg.v ++ [V.int (j : Nat)] := by unfold RGj; simp [Rg.v, List.range_succ]
theorem RGj_len (A : List Nat) (j : Nat) : (RGj A j).length = A.length + j := by unfold RGj; simp
section
variable {P : Program} {w : World} {K : PySem.W.Frag} {mg : Str → Option Value} {base : Heap}
def sp_law_lines (_ : Txt w K mg) : Sp := fun vs H Q _ => ∃ (p q a : Addr) (ps : List Str) (r n m : Nat) (rd : Int), vs = [.ref p, .ref a, .int (r : Nat), .int (n : Nat), .int (m : Nat), .int rd] ∧ Dr H p q ∧ p ≠ q ∧ H a = some (.lst (ps.map V.str)) ∧ a ≠ p ∧ ps.length ≤ 3 ∧ (∀ z ∈ ps, z.length ≤ 64) ∧ 1 ≤ r ∧ r ≤ 4 ∧ 2 ≤ n ∧ n ≤ 12 ∧ m ≤ 12 ∧
  ∀ H' l ts ls, Dr H' p q → KP p H H' → H l = none → H' l = some (.lst ts) → Refs H' ts ls LnAt → LnsOk n r ((lettersM (pls ps)).map Prod.fst) ls → ls.length = m → Q (.ref l) H'
theorem sp_law_lines_len {T : Txt w K mg} {vs H Q E} (h : sp_law_lines T vs H Q E) : vs.length = 6 := by obtain ⟨_, _, _, _, _, _, _, _, rfl, _⟩ := h; rfl
theorem ok_law_lines (T : Txt w K mg) : FnOk P w K mg base CX0 4 T.f_law_lines T.fd_law_lines ["_law_draws_here", "_law_patterns_here", "_law_registers", "_law_word_here", "_law_many", "_law_reads"] (sp_law_lines T) := by
  have G_law_letters := ok_law_letters (P := P) (w := w) (base := base) T; have G_law_line := ok_law_line (P := P) (w := w) (base := base) T; have G_law_take := ok_law_take (P := P) (w := w) (base := base) T
  refine T.F_law_lines.ok sc_law_lines (fun vs H Q E h => sp_law_lines_len h) (fun cdv A outer s H vs Q E hr h => ?_)
  obtain ⟨p, q, a, ps, r, n, m, rd, rfl, hd, hpq, ha, hap, h3, h64, r1, r4, n2, n12, m12, k⟩ := h
  refine ⟨_, (pss_cons (ps_set (i := 6) sc_law_lines.nd rfl (Or.inl rfl) (pe_lst pa_nil))
       (pss_cons (ps_set (i := 7) sc_law_lines.nd rfl (Or.inl rfl) (pe_lst pa_nil))
       (pss_cons (ps_for PassesOwn.never rfl (pi_list (pe_call G_law_letters (hr.mono (by decide)) rfl T.g_law_letters T.F_law_letters.kp T.b_law_letters .nil pass0 (pa_cons (pv 1) pa_nil))) (pg_tup (n := 2) rfl (pgs_cons (pg_name (i := 8) sc_law_lines.nd rfl (Or.inl rfl)) (pgs_cons (pg_name (i := 9) sc_law_lines.nd rfl (Or.inl rfl)) pgs_nil)))
        (pss_one (ps_if (pt_cmpR op_in_seq (pv 8) (pe_lst (pa_cons pe_str (pa_cons pe_str (pa_cons pe_str pa_nil)))) (by rfl))
        (pss_one (ps_expr (pe_bm PySem.F.plainAttrs_list PySem.F.slot_list_append PySem.F.type_list_append mt_append (pv 6) (pa_cons (pv 8) pa_nil))))
        (pss_one (ps_expr (pe_bm PySem.F.plainAttrs_list PySem.F.slot_list_append PySem.F.type_list_append mt_append (pv 7) (pa_cons (pv 8) pa_nil)))))))
       (pss_cons (ps_for PassesOwn.never rfl (pi_range1 (by rfl) T.n_range (pa_cons (pv 2) pa_nil)) (pg_name (i := 10) sc_law_lines.nd rfl (Or.inl rfl))
        (pss_one (ps_expr (pe_bm PySem.F.plainAttrs_list PySem.F.slot_list_append PySem.F.type_list_append mt_append (pv 6) (pa_cons (pv 10) pa_nil)))))
       (pss_cons (ps_set (i := 11) sc_law_lines.nd rfl (Or.inl rfl) (pe_lst (pa_cons pe_str (pa_cons pe_str (pa_cons pe_str (pa_cons pe_str (pa_cons pe_str (pa_cons pe_str (pa_cons pe_str (pa_cons pe_str (pa_cons pe_str (pa_cons pe_str (pa_cons pe_str (pa_cons pe_str (pa_cons pe_str (pa_cons pe_str (pa_cons pe_str pa_nil)))))))))))))))))
       (pss_cons (ps_set (i := 12) sc_law_lines.nd rfl (Or.inl rfl) (pe_lst pa_nil))
       (pss_cons (ps_set (i := 13) sc_law_lines.nd rfl (Or.inl rfl) (pe_lst pa_nil))
       (pss_cons (ps_set (i := 14) sc_law_lines.nd rfl (Or.inl rfl) pe_bl)
       (pss_cons (ps_set (i := 15) sc_law_lines.nd rfl (Or.inl rfl) pe_bl)
       (pss_cons (ps_for PassesOwn.never rfl (pi_range1 (by rfl) T.n_range (pa_cons (pv 4) pa_nil)) (pg_name (i := 16) sc_law_lines.nd rfl (Or.inl rfl))
        (pss_cons (ps_set (i := 17) sc_law_lines.nd rfl (Or.inl rfl) (pe_ix ix_list (pv 11) (pe_call G_law_take (hr.mono (by decide)) rfl T.g_law_take T.F_law_take.kp T.b_law_take .nil pass0 (pa_cons (pv 0) (pa_cons pe_int pa_nil))) (fun _ _ => rfl)))
       (Evl.pss_cut (ps_if (PW.pt (pw_and (pt_cmpR op_in_seq (pv 17) (pe_lst (pa_cons pe_str (pa_cons pe_str pa_nil))) (by rfl)) (pw_and1 (pt_cmpR op_eq (pv 5) pe_int (nomark _)))))
        (pss_one (ps_set (i := 17) sc_law_lines.nd rfl (Or.inl rfl) pe_str))
        pss_nil)
       (Evl.pss_cut (ps_if (PW.pt (pw_and (pt_cmpR op_in_seq (pv 17) (pe_lst (pa_cons pe_str (pa_cons pe_str (pa_cons pe_str pa_nil)))) (by rfl)) (pw_and1 (pt_val (pv 14)))))
        (pss_one (ps_set (i := 17) sc_law_lines.nd rfl (Or.inl rfl) pe_str))
        pss_nil)
       (Evl.pss_cut (ps_if (PW.pt (pw_and (pt_cmpR op_eq (pv 17) pe_str (nomark _)) (pw_and1 (pt_val (pv 15)))))
        (pss_one (ps_set (i := 17) sc_law_lines.nd rfl (Or.inl rfl) pe_str))
        pss_nil)
       (Evl.pss_cut (ps_if (PW.pt (pw_and (pt_cmpR op_eq (pe_callB call_lenL (by rfl) T.n_len (by decide +kernel) (pa_cons (pv 13) pa_nil)) pe_int (nomark _)) (pw_and1 (pt_cmpR op_notIn_seq (pv 17) (pe_lst (pa_cons pe_str (pa_cons pe_str (pa_cons pe_str (pa_cons pe_str (pa_cons pe_str pa_nil)))))) (by rfl)))))
        (pss_one (ps_set (i := 17) sc_law_lines.nd rfl (Or.inl rfl) pe_str))
        pss_nil)
       (pss_cons (ps_set (i := 18) sc_law_lines.nd rfl (Or.inl rfl) (pe_call G_law_line hr rfl T.g_law_line T.F_law_line.kp T.b_law_line .nil pass0 (pa_cons (pv 0) (pa_cons (pv 17) (pa_cons (pv 6) (pa_cons (pv 7) (pa_cons (pv 13) (pa_cons (pv 3) pa_nil))))))))
       (Evl.pss_cut (ps_if (pt_cmpR op_in_seq (pv 17) (pe_lst (pa_cons pe_str (pa_cons pe_str pa_nil))) (by rfl))
        (pss_one (ps_set (i := 5) sc_law_lines.nd rfl (Or.inl rfl) (pe_op op_sub (pv 5) pe_int)))
        pss_nil)
       (Evl.pss_cut (ps_if (pt_cmpR op_in_seq (pv 17) (pe_lst (pa_cons pe_str (pa_cons pe_str (pa_cons pe_str pa_nil)))) (by rfl))
        (pss_one (ps_set (i := 14) sc_law_lines.nd rfl (Or.inl rfl) pe_bl))
        pss_nil)
       (Evl.pss_cut (ps_if (pt_cmpR op_eq (pv 17) pe_str (nomark _))
        (pss_one (ps_set (i := 15) sc_law_lines.nd rfl (Or.inl rfl) pe_bl))
        pss_nil)
       (Evl.pss_cut (ps_if (pt_cmpR op_notIn_seq (pv 17) (pe_lst (pa_cons pe_str (pa_cons pe_str (pa_cons pe_str (pa_cons pe_str (pa_cons pe_str pa_nil)))))) (by rfl))
        (pss_one (ps_expr (pe_bm PySem.F.plainAttrs_list PySem.F.slot_list_append PySem.F.type_list_append mt_append (pv 13) (pa_cons (pv 16) pa_nil))))
        pss_nil)
       (pss_one (ps_expr (pe_bm PySem.F.plainAttrs_list PySem.F.slot_list_append PySem.F.type_list_append mt_append (pv 12) (pa_cons (pv 18) pa_nil)))))))))))))))
       (pss_one (ps_ret (pv 12))))))))))))), ?_⟩
  have sz : sizeLine = 16777216 := sizeLine_eq
  refine ⟨Nat.zero_le _, fun rb rb0 => ?_⟩
  refine ⟨Nat.zero_le _, fun nb nb0 => ?_⟩
  have s1 := same_new (o := .lst []) rb0
  have s2 := same_new (o := .lst []) nb0
  have rbp := hd.nlist (xs := []) rb0
  have nbp := (hd.news s1).nlist (xs := []) nb0
  have rnb : nb ≠ rb := fun z => by rw [z, upd_same] at nb0; cases nb0
  refine ⟨_, rfl, a, ps, rfl, s2 _ _ (s1 _ _ ha), h3, h64, fun H2 t s3 t0 ht => ?_⟩
  obtain ⟨ts, hts, hR⟩ := ht
  have hrb2 := s3 _ _ (s2 _ _ upd_same)
  have hnb2 := s3 _ _ upd_same
  have hd2 := ((hd.news s1).news s2).news s3
  have trb : t ≠ rb := fun z => by rw [z] at t0; rw [s2 _ _ upd_same] at t0; cases t0
  have tnb : t ≠ nb := fun z => by rw [z, upd_same] at t0; cases t0
  refine ⟨t, rfl, ⟨_, SqL.of hts⟩, ?_⟩
  refine for_it (walk_list (xs := ts)) (fun j σ H3 => ∃ (A B : List Nat) (v8 v9 : Option V), (∀ c ∈ A, regR r ((lettersM (pls ps)).map Prod.fst) (.l c)) ∧ (∀ c ∈ B, numR n ((lettersM (pls ps)).map Prod.fst) (.l c)) ∧ A.length + B.length ≤ j ∧
      (∀ b o, H2 b = some o → b ≠ rb → b ≠ nb → H3 b = some o) ∧ H3 rb = some (.lst (A.map fun c => V.str (sg c))) ∧ H3 nb = some (.lst (B.map fun c => V.str (sg c))) ∧ σ = [some (.ref p), some (.ref a), some (.int (r : Nat)), some (.int (n : Nat)), some (.int (m : Nat)), some (.int rd), some (.ref rb), some (.ref nb), v8, v9, none, none, none, none, none, none, none, none, none])
    ⟨[], [], none, none, (fun c h => nomatch h), (fun c h => nomatch h), Nat.le_refl _, fun b o e _ _ => e, hrb2, hnb2, rfl⟩ (fun j σ H3 _ ⟨_, _, _, _, _, _, _, k3, _⟩ => SqL.of (k3 _ _ hts trb tnb)) ?_ ?_
  · rintro j x σ H3 H4 hj ⟨A, B, v8, v9, hA, hB, hAB, k3, hr3, hn3, rfl⟩ ⟨rfl, hx⟩
    obtain ⟨u, g, hg, hu, hr⟩ := hR.at (i := j) (by have := hR.1; omega)
    rw [hu] at hx
    cases hx
    unfold LetAt at hr
    have L5 := lettersM_le (pls ps)
    have hRl := hR.1
    have ur : u ≠ rb := fun z => by rw [z, hrb2] at hr; cases hr
    have un : u ≠ nb := fun z => by rw [z, hnb2] at hr; cases hr
    have hr4 := k3 _ _ hr ur un
    refine ⟨u, _, rfl, SqT.of hr4, rfl, _, _, rfl, _, _, rfl, rfl, ?_⟩
    refine ⟨_, rfl, by show 3 ≤ _; omega, fun ob ob0 => ?_⟩
    have s5 := same_new (o := .lst [.str "a", .str "b", .str "c"]) ob0
    have hr5 := s5 _ _ hr3
    have hn5 := s5 _ _ hn3
    refine ⟨ob, (["a", "b", "c"] : List Str).map V.str, rfl, .inl (SqL.of upd_same), rfl, flatStrs _, _, rfl, ?_⟩
    rw [inStrs]
    have hgm : g.1 ∈ (lettersM (pls ps)).map Prod.fst := List.mem_map.mpr ⟨g, List.mem_of_getElem? hg, rfl⟩
    refine iteB (fun c => ?_) fun c => ?_
    · refine ⟨_, rfl, .inl ⟨rfl, _, SqL.of hr5⟩, _, rfl, rb, _, _, rfl, rfl, hr5, by rw [List.length_map]; omega, ?_⟩
      refine ⟨A ++ [g.1], B, _, _, fun x hx => ?_, hB, by rw [List.length_append, List.length_singleton]; omega, fun b o e z1 z2 => by rw [upd_ne z1]; exact s5 _ _ (k3 _ _ e z1 z2), by rw [upd_same, List.map_append]; rfl, by rw [upd_ne rnb]; exact hn5, rfl⟩
      rcases List.mem_append.mp hx with h | h
      · exact hA x h
      · rw [List.mem_singleton.mp h]; exact ⟨hgm, sgMem [97, 98, 99] g.1 c⟩
    · refine ⟨_, rfl, .inl ⟨rfl, _, SqL.of hn5⟩, _, rfl, nb, _, _, rfl, rfl, hn5, by rw [List.length_map]; omega, ?_⟩
      refine ⟨A, B ++ [g.1], _, _, hA, fun x hx => ?_, by rw [List.length_append, List.length_singleton]; omega, fun b o e z1 z2 => by rw [upd_ne z2]; exact s5 _ _ (k3 _ _ e z1 z2), by rw [upd_ne rnb.symm]; exact hr5, by rw [upd_same, List.map_append]; rfl, rfl⟩
      rcases List.mem_append.mp hx with h | h
      · exact hB x h
      · rw [List.mem_singleton.mp h]
        have h5 := lettersM_five (pls ps) g.1 hgm
        have h6 : g.1 ∉ [97, 98, 99] := fun z => by
          have : (sg g.1) ∈ (["a", "b", "c"] : List Str) := List.mem_map.mpr ⟨g.1, z, rfl⟩
          rw [decide_eq_true this] at c; cases c
        refine ⟨hgm, ?_⟩
        simp only [List.mem_cons, List.not_mem_nil, or_false, lettersN] at h5 h6 ⊢
        omega
  rintro σ H3 ⟨A, B, v8, v9, hA, hB, hAB, k3, hr3, hn3, rfl⟩
  have L5 := lettersM_le (pls ps)
  have hRl := hR.1
  clear hd2
  refine ⟨_, rfl, _, rfl, by omega, by omega, ?_⟩
  refine for_range (lo := 0) (n := ((r : Nat) : Int).toNat) (fun j σ H4 => ∃ (v10 : Option V), (∀ b o, H3 b = some o → b ≠ rb → H4 b = some o) ∧ H4 rb = some (.lst ((RGj A j).map Rg.v)) ∧ σ = [some (.ref p), some (.ref a), some (.int (r : Nat)), some (.int (n : Nat)), some (.int (m : Nat)), some (.int rd), some (.ref rb), some (.ref nb), v8, v9, v10, none, none, none, none, none, none, none, none])
    ⟨none, fun b o e _ => e, by rw [hr3, RGj_0], rfl⟩ ?_ ?_
  · rintro j σ H4 hj ⟨v10, k4, hr4, rfl⟩
    refine ⟨_, rfl, .inl ⟨rfl, _, SqL.of hr4⟩, _, rfl, rb, _, _, rfl, rfl, hr4, by rw [List.length_map, RGj_len]; omega, ?_⟩
    exact ⟨_, fun b o e z => by rw [upd_ne z]; exact k4 _ _ e z, by rw [upd_same, RGj_s, Int.zero_add], rfl⟩
  rintro σ H4 ⟨v10, k4, hr4, rfl⟩
  rw [Int.toNat_natCast] at hr4
  have hn4 := k4 _ _ hn3 rnb
  have k04' : ∀ b o, H b = some o → H4 b = some o := fun b o e => by
    have z1 : b ≠ rb := fun z => by rw [z, rb0] at e; cases e
    have z2 : b ≠ nb := fun z => by have e' := s1 _ _ e; rw [z, nb0] at e'; cases e'
    exact k4 _ _ (k3 _ _ (s3 _ _ (s2 _ _ (s1 _ _ e))) z1 z2) z1
  have hd4 : Dr H4 p q := hd.news k04'
  have k04 : KP p H H4 := KP.of k04'
  clear hr3 hn3 k3
  refine ⟨by show 15 ≤ _; omega, fun mb mb0 => ?_⟩
  rw [show ([V.str "get", .str "num", .str "op", .str "must", .str "read", .str "write", .str "put", .str "op", .str "here", .str "out", .str "get", .str "goto", .str "in", .str "next", .str "must"] : List V) = menuL.map V.str from rfl]
  refine ⟨Nat.zero_le _, fun lb lb0 => ⟨Nat.zero_le _, fun vb vb0 => ?_⟩⟩
  have s5 := ((same_new (o := .lst (menuL.map V.str)) mb0).trans (same_new (o := .lst []) lb0)).trans (same_new (o := .lst []) vb0)
  have hm5 := (same_new (o := .lst []) vb0) _ _ ((same_new (o := .lst []) lb0) _ _ (upd_same (H := H4) (a := mb) (o := .lst (menuL.map V.str))))
  refine ⟨_, rfl, _, rfl, by omega, by omega, ?_⟩
  have hr5 := s5 _ _ hr4
  have hn5 := s5 _ _ hn4
  have hd5 := hd4.news s5
  have k05 : KP p H _ := k04.trans (KP.of s5)
  have mbp := hd4.nlist (xs := []) mb0
  have hd6 := hd4.news (same_new (o := .lst (menuL.map V.str)) mb0)
  have lbp := hd6.nlist (xs := []) lb0
  have hd7 := hd6.news (same_new (o := .lst []) lb0)
  have vbp := hd7.nlist (xs := []) vb0
  have vlb : vb ≠ lb := fun z => by rw [z, upd_same] at vb0; cases vb0
  have hl5 : upd (upd (upd H4 mb (.lst (menuL.map V.str))) lb (.lst [])) vb (.lst []) lb = some (.lst []) := by rw [upd_ne vlb.symm, upd_same]
  have hv5 : upd (upd (upd H4 mb (.lst (menuL.map V.str))) lb (.lst [])) vb (.lst []) vb = some (.lst []) := upd_same
  have lm : lb ≠ mb := fun z => by rw [z, upd_same] at lb0; cases lb0
  have vm : vb ≠ mb := fun z => by rw [z] at vb0; rw [(same_new (o := .lst []) lb0) _ _ upd_same] at vb0; cases vb0
  have nl4 : ∀ b o, H4 b = some o → b ≠ lb ∧ b ≠ vb := fun b o e => by
    refine ⟨fun z => ?_, fun z => ?_⟩
    · have := same_new (o := .lst (menuL.map V.str)) mb0 _ _ e; rw [z, lb0] at this; cases this
    · have := same_new (o := .lst []) lb0 _ _ (same_new (o := .lst (menuL.map V.str)) mb0 _ _ e); rw [z, vb0] at this; cases this
  have nl0 : ∀ b o, H b = some o → b ≠ lb ∧ b ≠ vb := fun b o e => nl4 _ _ (k04' _ _ e)
  obtain ⟨rl, rv⟩ := nl4 _ _ hr4
  obtain ⟨nl, nv⟩ := nl4 _ _ hn4
  have lb00 : H lb = none := by
    cases h : H lb with
    | none => rfl
    | some o => exact absurd rfl (nl0 _ _ h).1
  have pv : p ≠ vb := vbp.symm
  have pl : p ≠ lb := lbp.symm
  obtain ⟨qv, ql⟩ : q ≠ vb ∧ q ≠ lb := by obtain ⟨_, _, _, e, _⟩ := hd4; exact ⟨(nl4 _ _ e).2, (nl4 _ _ e).1⟩
  have drk : ∀ (H' : Hp) (x : Addr) (o : HO), p ≠ x → q ≠ x → Dr H' p q → Dr (upd H' x o) p q := fun H' x o xp xq ⟨ms, j, h1, h2, h3⟩ => ⟨ms, j, by rw [upd_ne xp]; exact h1, by rw [upd_ne xq]; exact h2, h3⟩
  generalize upd (upd (upd H4 mb _) lb (.lst [])) vb (.lst []) = H5 at *
  clear s5 hd4 k04 hd6 hd7 mb0 lb0 vb0
  have hRG : ∀ x ∈ RGj A r, regR r ((lettersM (pls ps)).map Prod.fst) x := fun x hx => by
    rcases List.mem_append.mp hx with h | h
    · obtain ⟨c, hc, rfl⟩ := List.mem_map.mp h
      exact hA c hc
    · obtain ⟨c, hc, rfl⟩ := List.mem_map.mp h
      exact List.mem_range.mp hc
  refine for_range (lo := 0) (n := ((m : Nat) : Int).toNat) (fun j σ H6 => Dr H6 p q ∧ KP p H H6 ∧ H6 rb = some (.lst ((RGj A r).map Rg.v)) ∧ H6 nb = some (.lst (B.map fun c => V.str (sg c))) ∧ H6 mb = some (.lst (menuL.map V.str)) ∧ ∃ (us : List V) (ls : List Ln) (rd : Int) (v16 v17 v18 : Option V), H6 lb = some (.lst us) ∧ Refs H6 us ls LnAt ∧ H6 vb = some (.lst (natsV (valsTo ls))) ∧ ls.length = j ∧ LnsOk n r ((lettersM (pls ps)).map Prod.fst) ls ∧
      σ = [some (.ref p), some (.ref a), some (.int (r : Nat)), some (.int (n : Nat)), some (.int (m : Nat)), some (.int rd), some (.ref rb), some (.ref nb), v8, v9, v10, some (.ref mb), some (.ref lb), some (.ref vb), some (.bl (ls.any Ln.isE)), some (.bl (ls.any Ln.isG)), v16, v17, v18])
    ⟨hd5, k05, hr5, hn5, hm5, [], [], rd, none, none, none, hl5, Refs.nil, hv5, rfl, ⟨Nat.zero_le _, (fun i l h => by simp at h), Nat.zero_le _, Nat.zero_le _⟩, rfl⟩ ?_ ?_
  · rintro j σ H6 hj ⟨d6, k6, hr6, hn6, hm6, us, ls, rd, v16, v17, v18, hl6, hR6, hv6, hlj, hok, rfl⟩
    rw [Int.toNat_natCast] at hj
    refine ⟨_, rfl, _, rfl, p, q, _, rfl, d6, hpq, by decide, fun H7 v v0 v1 d7 k7 => ?_⟩
    obtain ⟨nm, hnm⟩ := getElem_lt menuL (i := v.toNat) (by show v.toNat < 15; omega)
    refine ⟨mb, _, _, _, rfl, rfl, SqL.of (k7 _ _ hm6 mbp), atI_int v0 (by rw [List.getElem?_map, hnm]; rfl), ?_⟩
    have hkm : nm ∈ kindsL := by
      have h := List.mem_of_getElem? hnm
      revert h
      exact fun h => List.all_eq_true.mp (show (menuL.all fun z => decide (z ∈ kindsL)) = true by decide +kernel) nm h |> of_decide_eq_true
    -- read and in, when no read is left
    refine ⟨fun σ' H8 => Same H7 H8 ∧ ∃ nm', nm' ∈ kindsL ∧ σ' = [some (.ref p), some (.ref a), some (.int (r : Nat)), some (.int (n : Nat)), some (.int (m : Nat)), some (.int (rd)), some (.ref rb), some (.ref nb), v8, v9, v10, some (.ref mb), some (.ref lb), some (.ref vb), some (.bl (ls.any Ln.isE)), some (.bl (ls.any Ln.isG)), some (.int (0 + (j : Int))), some (.str nm'), v18], ?_, ?_⟩
    · refine ⟨_, rfl, by show 2 ≤ _; omega, fun ob ob0 => ?_⟩
      refine ⟨ob, (["read", "in"] : List Str).map V.str, rfl, .inl (SqL.of upd_same), rfl, flatStrs _, _, rfl, ?_⟩
      rw [inStrs]
      refine iteB (fun c => ?_) fun c => ?_
      · refine ⟨_, rfl, rfl, _, rfl, iteB (fun _ => ?_) fun _ => ?_⟩
        · exact ⟨same_new ob0, "op", by decide +kernel, rfl⟩
        · exact ⟨same_new ob0, nm, hkm, rfl⟩
      · exact ⟨same_new ob0, nm, hkm, rfl⟩
    rintro σ' H8 ⟨s8, nm1, hk1, rfl⟩
    -- one effect
    refine ⟨fun σ' H9 => Same H7 H9 ∧ ∃ nm', nm' ∈ kindsL ∧ (ls.any Ln.isE = true → nm' ∉ (["write", "out", "in"] : List Str)) ∧ σ' = [some (.ref p), some (.ref a), some (.int (r : Nat)), some (.int (n : Nat)), some (.int (m : Nat)), some (.int (rd)), some (.ref rb), some (.ref nb), v8, v9, v10, some (.ref mb), some (.ref lb), some (.ref vb), some (.bl (ls.any Ln.isE)), some (.bl (ls.any Ln.isG)), some (.int (0 + (j : Int))), some (.str nm'), v18], ?_, ?_⟩
    · refine ⟨_, rfl, by show 3 ≤ _; omega, fun ob ob0 => ?_⟩
      have s9 := s8.trans (same_new (o := .lst ((["write", "out", "in"] : List Str).map V.str)) ob0)
      refine ⟨ob, (["write", "out", "in"] : List Str).map V.str, rfl, .inl (SqL.of upd_same), rfl, flatStrs _, _, rfl, ?_⟩
      rw [inStrs]
      refine iteB (fun c => ?_) fun c => ?_
      · refine ⟨_, rfl, _, rfl, iteB (fun c2 => ?_) fun c2 => ?_⟩
        · exact ⟨s9, "must", by decide +kernel, fun _ => by decide +kernel, rfl⟩
        · exact ⟨s9, nm1, hk1, (fun z => by rw [c2] at z; cases z), rfl⟩
      · exact ⟨s9, nm1, hk1, fun _ => of_decide_eq_false c, rfl⟩
    rintro σ' H9 ⟨s9, nm2, hk2, he2, rfl⟩
    -- one goto
    refine ⟨fun σ' H' => H' = H9 ∧ ∃ nm', nm' ∈ kindsL ∧ (ls.any Ln.isE = true → nm' ∉ (["write", "out", "in"] : List Str)) ∧ (ls.any Ln.isG = true → decide (V.str nm' = V.str "goto") = false) ∧ σ' = [some (.ref p), some (.ref a), some (.int (r : Nat)), some (.int (n : Nat)), some (.int (m : Nat)), some (.int (rd)), some (.ref rb), some (.ref nb), v8, v9, v10, some (.ref mb), some (.ref lb), some (.ref vb), some (.bl (ls.any Ln.isE)), some (.bl (ls.any Ln.isG)), some (.int (0 + (j : Int))), some (.str nm'), v18], ?_, ?_⟩
    · refine ⟨_, rfl, rfl, _, rfl, iteB (fun c => ?_) fun c => ?_⟩
      · refine ⟨_, rfl, _, rfl, iteB (fun c2 => ?_) fun c2 => ?_⟩
        · exact ⟨rfl, "put", by decide +kernel, fun _ => by decide +kernel, fun _ => by decide +kernel, rfl⟩
        · exact ⟨rfl, nm2, hk2, he2, (fun z => by rw [c2] at z; cases z), rfl⟩
      · exact ⟨rfl, nm2, hk2, he2, fun _ => c, rfl⟩
    rintro σ' H' ⟨e9, nm3, hk3, he3, hg3, rfl⟩
    subst e9
    -- a first line
    refine ⟨fun σ' H10 => Same H7 H10 ∧ ∃ nm', nm' ∈ kindsL ∧ (ls.any Ln.isE = true → nm' ∉ (["write", "out", "in"] : List Str)) ∧ (ls.any Ln.isG = true → decide (V.str nm' = V.str "goto") = false) ∧ (valsTo ls = [] → nm' ∈ firstOk) ∧ σ' = [some (.ref p), some (.ref a), some (.int (r : Nat)), some (.int (n : Nat)), some (.int (m : Nat)), some (.int (rd)), some (.ref rb), some (.ref nb), v8, v9, v10, some (.ref mb), some (.ref lb), some (.ref vb), some (.bl (ls.any Ln.isE)), some (.bl (ls.any Ln.isG)), some (.int (0 + (j : Int))), some (.str nm'), v18], ?_, ?_⟩
    · refine ⟨_, rfl, vb, _, rfl, SqL.of (s9 _ _ (k7 _ _ hv6 vbp)), rfl, _, rfl, ?_⟩
      rw [natsV_len]
      have ev : ((valsTo ls).length : Int) = 0 ↔ valsTo ls = [] := by rw [← List.length_eq_zero_iff]; omega
      refine iteB (fun c => ?_) fun c => ?_
      · refine ⟨_, rfl, by show 5 ≤ _; omega, fun ob ob0 => ?_⟩
        have s10 := s9.trans (same_new (o := .lst (firstOk.map V.str)) ob0)
        refine ⟨ob, firstOk.map V.str, rfl, .inl (SqL.of upd_same), rfl, flatStrs _, _, rfl, ?_⟩
        rw [inStrs]
        cases c2 : decide (nm3 ∈ firstOk) with
        | false => exact ⟨s10, "get", by decide +kernel, fun _ => by decide +kernel, fun _ => by decide +kernel, fun _ => by decide +kernel, rfl⟩
        | true => exact ⟨s10, nm3, hk3, he3, hg3, fun _ => of_decide_eq_true c2, rfl⟩
      · exact ⟨s9, nm3, hk3, he3, hg3, fun z => absurd (ev.mpr z) (by simpa using c), rfl⟩
    rintro σ' H10 ⟨s10, nm4, hk4, he4, hg4, hf4, rfl⟩
    have k610 := KP.trans k7 (KP.of s10)
    have vl := valsTo_len ls
    have LG := RGj_len A r
    refine ⟨_, rfl, _, rfl, _, rfl, _, rfl, _, rfl, _, rfl, ?_⟩
    refine ⟨p, q, rb, nb, vb, nm4, RGj A r, B, valsTo ls, (lettersM (pls ps)).map Prod.fst, n, r, rfl, d7.news s10, hpq, k610 _ _ hr6 rbp, fun z => by rw [z] at LG; simp at LG; omega, by omega, hRG, rbp, k610 _ _ hn6 nbp, by omega, hB, nbp, k610 _ _ hv6 vbp, by omega, vbp, hk4, hf4, n2, n12, fun H11 u l d11 k11 u0 hu hl hlnm => ?_⟩
    have k1011 : KP p H6 H11 := k610.trans k11
    have k011 := k6.trans k1011
    have aE : (ls ++ [l]).any Ln.isE = (ls.any Ln.isE || l.isE) := by simp
    have aG : (ls ++ [l]).any Ln.isG = (ls.any Ln.isG || l.isG) := by simp
    have hok2 : LnsOk n r ((lettersM (pls ps)).map Prod.fst) (ls ++ [l]) := hok.snoc (by omega) hl
      (fun z => by
        cases h : ls.any Ln.isE with
        | false => rfl
        | true => exact absurd (of_decide_eq_true (by rw [← hlnm, lw_E]; exact z)) (he4 h))
      (fun z => by
        cases h : ls.any Ln.isG with
        | false => rfl
        | true =>
          have := hg4 h
          rw [← hlnm, lw_G, z] at this
          cases this)
    -- the reads left
    refine ⟨fun σ' H12 => Same H11 H12 ∧ ∃ rd : Int, σ' = [some (.ref p), some (.ref a), some (.int (r : Nat)), some (.int (n : Nat)), some (.int (m : Nat)), some (.int (rd)), some (.ref rb), some (.ref nb), v8, v9, v10, some (.ref mb), some (.ref lb), some (.ref vb), some (.bl (ls.any Ln.isE)), some (.bl (ls.any Ln.isG)), some (.int (0 + (j : Int))), some (.str nm4), some (.ref u)], ?_, ?_⟩
    · refine ⟨_, rfl, by show 2 ≤ _; omega, fun ob ob0 => ?_⟩
      refine ⟨ob, (["read", "in"] : List Str).map V.str, rfl, .inl (SqL.of upd_same), rfl, flatStrs _, _, rfl, ?_⟩
      rw [inStrs]
      refine iteB (fun c => ?_) fun c => ?_
      · refine ⟨_, rfl, _, _, rfl, rfl, ?_⟩
        exact ⟨same_new ob0, _, rfl⟩
      · exact ⟨same_new ob0, _, rfl⟩
    rintro σ' H12 ⟨s12, rd2, rfl⟩
    refine ⟨fun σ' H13 => Same H11 H13 ∧ σ' = [some (.ref p), some (.ref a), some (.int (r : Nat)), some (.int (n : Nat)), some (.int (m : Nat)), some (.int (rd2)), some (.ref rb), some (.ref nb), v8, v9, v10, some (.ref mb), some (.ref lb), some (.ref vb), some (.bl ((ls ++ [l]).any Ln.isE)), some (.bl (ls.any Ln.isG)), some (.int (0 + (j : Int))), some (.str nm4), some (.ref u)], ?_, ?_⟩
    · refine ⟨_, rfl, by show 3 ≤ _; omega, fun ob ob0 => ?_⟩
      have s13 := s12.trans (same_new (o := .lst ((["write", "out", "in"] : List Str).map V.str)) ob0)
      refine ⟨ob, (["write", "out", "in"] : List Str).map V.str, rfl, .inl (SqL.of upd_same), rfl, flatStrs _, _, rfl, ?_⟩
      rw [inStrs, ← hlnm, lw_E]
      refine iteB (fun (c : l.isE = true) => ?_) fun (c : l.isE = false) => ?_
      · exact ⟨s13, by rw [aE, c, Bool.or_true]; rfl⟩
      · exact ⟨s13, by rw [aE, c, Bool.or_false]⟩
    rintro σ' H13 ⟨s13, rfl⟩
    refine ⟨fun σ' H' => H' = H13 ∧ σ' = [some (.ref p), some (.ref a), some (.int (r : Nat)), some (.int (n : Nat)), some (.int (m : Nat)), some (.int (rd2)), some (.ref rb), some (.ref nb), v8, v9, v10, some (.ref mb), some (.ref lb), some (.ref vb), some (.bl ((ls ++ [l]).any Ln.isE)), some (.bl ((ls ++ [l]).any Ln.isG)), some (.int (0 + (j : Int))), some (.str nm4), some (.ref u)], ?_, ?_⟩
    · refine ⟨_, rfl, rfl, _, rfl, ?_⟩
      rw [← hlnm, lw_G]
      refine iteB (fun (c : l.isG = true) => ?_) fun (c : l.isG = false) => ?_
      · exact ⟨rfl, by rw [aG, c, Bool.or_true]; rfl⟩
      · exact ⟨rfl, by rw [aG, c, Bool.or_false]⟩
    rintro σ' H' ⟨e13, rfl⟩
    subst e13
    have d13 := d11.news s13
    have k613 := k1011.trans (KP.of s13)
    have hu13 := s13 _ _ hu
    refine ⟨fun σ' H14 => Dr H14 p q ∧ (∀ b o, H' b = some o → b ≠ vb → H14 b = some o) ∧ H14 vb = some (.lst (natsV (valsTo (ls ++ [l])))) ∧ σ' = [some (.ref p), some (.ref a), some (.int (r : Nat)), some (.int (n : Nat)), some (.int (m : Nat)), some (.int (rd2)), some (.ref rb), some (.ref nb), v8, v9, v10, some (.ref mb), some (.ref lb), some (.ref vb), some (.bl ((ls ++ [l]).any Ln.isE)), some (.bl ((ls ++ [l]).any Ln.isG)), some (.int (0 + (j : Int))), some (.str nm4), some (.ref u)], ?_, ?_⟩
    · refine ⟨_, rfl, by show 5 ≤ _; omega, fun ob ob0 => ?_⟩
      have s14 := same_new (o := .lst ((["must", "write", "out", "put", "goto"] : List Str).map V.str)) ob0
      have hv14 := s14 _ _ (k613 _ _ hv6 vbp)
      refine ⟨ob, (["must", "write", "out", "put", "goto"] : List Str).map V.str, rfl, .inl (SqL.of upd_same), rfl, flatStrs _, _, rfl, ?_⟩
      rw [inStrs, ← hlnm, lw_V]
      cases c : l.isV with
      | true =>
        refine ⟨_, rfl, .inl ⟨rfl, _, SqL.of hv14⟩, _, rfl, vb, _, _, rfl, rfl, hv14, by rw [natsV_len]; omega, ?_⟩
        exact ⟨drk _ _ _ pv qv (d13.news s14), fun b o e z => by rw [upd_ne z]; exact s14 _ _ e, by rw [upd_same, valsTo_snoc, if_pos c, hlj, ← natsV_snoc, Int.zero_add], rfl⟩
      | false => exact ⟨d13.news s14, fun b o e _ => s14 _ _ e, by rw [valsTo_snoc, if_neg (by rw [c]; decide)]; exact hv14, rfl⟩
    rintro σ' H14 ⟨d14, k14, hv14, rfl⟩
    have hl14 := k14 _ _ (k613 _ _ hl6 lbp) vlb.symm
    have hul := hR6.1
    refine ⟨_, rfl, .inl ⟨rfl, _, SqL.of hl14⟩, _, rfl, lb, _, _, rfl, rfl, hl14, by omega, ?_⟩
    have h0 : ∀ b o, H b = some o → b ≠ p → upd H14 lb (.lst (us ++ [V.ref u])) b = some o := fun b o e z => by
      rw [upd_ne (nl0 _ _ e).1]
      exact k14 _ _ (s13 _ _ (k011 _ _ e z)) (nl0 _ _ e).2
    have tl : ∀ b xs, H' b = some (.tup xs) → upd H14 lb (.lst (us ++ [V.ref u])) b = some (.tup xs) := fun b xs e => by
      have z1 : b ≠ lb := fun z => by rw [z, k613 _ _ hl6 lbp] at e; cases e
      have z2 : b ≠ vb := fun z => by rw [z, k613 _ _ hv6 vbp] at e; cases e
      rw [upd_ne z1]; exact k14 _ _ e z2
    refine ⟨drk _ _ _ pl ql d14, h0, by rw [upd_ne rl]; exact k14 _ _ (k613 _ _ hr6 rbp) rv, by rw [upd_ne nl]; exact k14 _ _ (k613 _ _ hn6 nbp) nv, by rw [upd_ne lm.symm]; exact k14 _ _ (k613 _ _ hm6 mbp) vm.symm, us ++ [V.ref u], ls ++ [l], rd2, _, _, _, upd_same, Refs.snoc (hR6.map fun u l _ (e : LnAt H6 u l) => tl _ _ (k613 _ _ e fun z => by obtain ⟨_, _, e', _⟩ := d6; unfold LnAt at e; rw [z, e'] at e; cases e)) (tl _ _ hu13), by rw [upd_ne vlb]; exact hv14, by rw [List.length_append, List.length_singleton, hlj], hok2, rfl⟩
  · rintro σ H6 ⟨d6, k6, hr6, hn6, hm6, us, ls, rd, v16, v17, v18, hl6, hR6, hv6, hlj, hok, rfl⟩
    rw [Int.toNat_natCast] at hlj
    exact ⟨_, rfl, k H6 lb us ls d6 k6 lb00 hl6 hR6 hok hlj⟩
end
end My

/-! LR -/
namespace My
open PySem L2
local macro_rules | `(tactic| walk_at "side") => `(tactic| first | with_reducible rfl | assumption | rfl | decide | omega | exact cpow1 (by omega) (by omega) | exact cdiv (by omega) (by omega) | exact two_pos _ | exact SqL.of (by assumption) | exact SqT.of (by assumption) | exact TyX.base (TyOf.int _) | exact TyX.base (TyOf.bl _) | exact TyX.base TyOf.non | exact scal_opt _ _ | exact k_ii | exact k_bi | exact k_ni | exact k_ib | exact k_bb | exact TyX.base (TyOf.lst (by assumption)) | exact k_ll | exact k_lt)
local macro_rules | `(tactic| walk_at "p") => `(tactic| repeat (first | refine And.intro (by walk_at "side") ?_ | apply Exists.intro | refine iteN (by assumption) ?_ | refine iteP (by assumption) ?_ | refine iteN (by decide) ?_ | refine iteP (by decide) ?_))

section
variable {P : Program} {w : World} {K : PySem.W.Frag} {mg : Str → Option Value} {base : Heap}
def sp_law_touched (_ : Txt w K mg) : Sp := fun vs H Q _ => ∃ (t b : Addr) (f : FM) (ns : List Int), vs = [.ref t, .ref b] ∧ RowP H t f ∧ H b = some (.lst (intsV ns)) ∧ ns.length = (lettersM (pls f.ps)).length ∧ f.ps.length ≤ 3 ∧ (∀ z ∈ f.ps, z.length ≤ 64) ∧ (∀ c, Rg.l c ∈ touchL f.ls → c ∈ (lettersM (pls f.ps)).map Prod.fst) ∧ f.ls.length ≤ 12 ∧
  ∀ H' l ys, Same H H' → H l = none → H' l = some (.lst (intsV ys)) → NamedL (lvOf (lettersM (pls f.ps)) ns) f.ls ys → Q (.ref l) H'
theorem sp_law_touched_len {T : Txt w K mg} {vs H Q E} (h : sp_law_touched T vs H Q E) : vs.length = 2 := by obtain ⟨_, _, _, _, rfl, _⟩ := h; rfl
theorem ok_law_touched (T : Txt w K mg) : FnOk P w K mg base CX0 2 T.f_law_touched T.fd_law_touched ["_law_row", "_law_numbers"] (sp_law_touched T) := by
  have G_law_letters := ok_law_letters (P := P) (w := w) (base := base) T
  refine T.F_law_touched.ok sc_law_touched (fun vs H Q E h => sp_law_touched_len h) (fun cdv A outer s H vs Q E hr h => ?_)
  obtain ⟨t, b, f, ns, rfl, ⟨pa, la, lus, ht, hpa, hla, hfR⟩, hb, hnl, h3, h64, htc, l12, k⟩ := h
  refine ⟨_, (pss_cons (ps_set (i := 2) sc_law_touched.nd rfl (Or.inl rfl) pe_dnewK)
       (pss_cons (ps_for PassesOwn.never rfl (pi_list (pe_call G_law_letters hr rfl T.g_law_letters T.F_law_letters.kp T.b_law_letters .nil pass0 (pa_cons (pe_ix ix_tup (pv 0) pe_int (fun _ _ => rfl)) pa_nil))) (pg_tup (n := 2) rfl (pgs_cons (pg_name (i := 3) sc_law_touched.nd rfl (Or.inl rfl)) (pgs_cons (pg_name (i := 4) sc_law_touched.nd rfl (Or.inl rfl)) pgs_nil)))
        (pss_one (ps_dput (hu_of hr) (pv 2) (pv 3) (pe_ix ix_list (pv 1) (pe_callB call_lenD (by rfl) T.n_len (by decide +kernel) (pa_cons (pv 2) pa_nil)) (fun _ _ => rfl)) rfl)))
       (pss_cons (ps_set (i := 5) sc_law_touched.nd rfl (Or.inl rfl) pe_dnewK)
       (pss_cons (ps_for PassesOwn.never rfl (pi_list (pe_ix ix_tup (pv 0) pe_int (fun _ _ => rfl))) (pg_name (i := 6) sc_law_touched.nd rfl (Or.inl rfl))
        (pss_one (ps_if (PW.pt (pw_or (pt_cmpR op_eq (pe_ix ix_tup (pv 6) pe_int (fun _ _ => rfl)) pe_str (nomark _)) (pw_or1 (pt_cmpR op_eq (pe_ix ix_tup (pv 6) pe_int (fun _ _ => rfl)) pe_str (nomark _)))))
        (pss_one (ps_dput (hu_of hr) (pv 5) (pe_dget2 (hu_of hr) (pv 2) (pe_ix ix_tup (pv 6) pe_int (fun _ _ => rfl)) (pe_ix ix_tup (pv 6) pe_int (fun _ _ => rfl)) ⟨rfl, rfl, rfl, rfl⟩) pe_bl rfl))
        pss_nil)))
       (pss_one (ps_ret (pe_callB (call_sortedDI rfl) (by rfl) T.n_sorted (by decide +kernel) (pa_cons (pv 5) pa_nil)))))))), ?_⟩
  have sz : sizeLine = 16777216 := sizeLine_eq
  have lul := hfR.1
  have L5 := lettersM_le (pls f.ps)
  have nd := letters_nd (pls f.ps)
  have nd := letters_nd (pls f.ps)
  refine fun d d0 => ?_
  have s1 := same_new (o := .dK []) d0
  refine ⟨_, rfl, t, _, _, _, rfl, rfl, SqT.of (s1 _ _ ht), rfl, pa, f.ps, rfl, s1 _ _ hpa, h3, h64, fun H2 r s2 r0 hr => ?_⟩
  obtain ⟨ts, hts, hR⟩ := hr
  have hRl := hR.1
  have hd2 := s2 _ _ (upd_same (H := H) (a := d) (o := .dK []))
  have s12 := s1.trans s2
  have rd : r ≠ d := fun z => by rw [z, upd_same] at r0; cases r0
  refine ⟨r, rfl, ⟨_, SqL.of hts⟩, ?_⟩
  refine for_it (walk_list (xs := ts)) (fun j σ H3 => ∃ (v3 v4 : Option V), (∀ b o, H2 b = some o → b ≠ d → H3 b = some o) ∧ H3 d = some (.dK (lkv ((lettersM (pls f.ps)).take j) (ns.take j))) ∧ σ = [some (.ref t), some (.ref b), some (.ref d), v3, v4, none, none])
    ⟨none, none, fun b o e _ => e, hd2, rfl⟩ (fun j σ H3 _ ⟨_, _, k3, _⟩ => SqL.of (k3 _ _ hts rd)) ?_ ?_
  · rintro j x σ H3 H4 hj ⟨v3, v4, k3, hd3, rfl⟩ ⟨rfl, hx⟩
    obtain ⟨u, g, hg, hu, hr⟩ := hR.at (i := j) (by omega)
    rw [hu] at hx
    cases hx
    unfold LetAt at hr
    have ud : u ≠ d := fun z => by rw [z, hd2] at hr; cases hr
    have hr4 := k3 _ _ hr ud
    have bd : b ≠ d := fun z => by rw [z, d0] at hb; cases hb
    have hb4 := k3 _ _ (s12 _ _ hb) bd
    refine ⟨u, _, rfl, SqT.of hr4, rfl, _, _, rfl, _, _, rfl, rfl, ?_⟩
    obtain ⟨x, hx⟩ := getElem_lt ns (i := j) (by omega)
    have lk3 := lkv_len ((lettersM (pls f.ps)).take j) (ns.take j)
    have lk4 : (lkv ((lettersM (pls f.ps)).take j) (ns.take j)).length = j := by unfold lkv; rw [List.length_map, List.length_zip, List.length_take, List.length_take]; omega
    refine ⟨_, rfl, _, rfl, d, _, rfl, hd3, ?_⟩
    rw [lk4]
    refine ⟨b, _, _, _, rfl, rfl, SqL.of hb4, atI_nat (intsV_at hx), ?_⟩
    refine ⟨_, rfl, _, rfl, d, _, rfl, .inl ⟨_, .inr (sg g.1), hd3, rfl, by omega, rfl⟩, ?_⟩
    refine ⟨_, _, fun b o e z => by rw [upd_ne z]; exact k3 _ _ e z, ?_, rfl⟩
    rw [upd_same, lkv_put nd hg hx]
  · rintro σ H3 ⟨v3, v4, k3, hd3, rfl⟩
    rw [List.take_of_length_le (by omega), List.take_of_length_le (by omega)] at hd3
    have k03 : ∀ b o, H b = some o → H3 b = some o := fun b o e => k3 _ _ (s12 _ _ e) fun z => by rw [z, d0] at e; cases e
    refine fun D D0 => ?_
    have s4 := same_new (o := .dK []) D0
    refine ⟨_, rfl, t, _, _, _, rfl, rfl, SqT.of (s4 _ _ (k03 _ _ ht)), rfl, la, rfl, ⟨_, SqL.of (s4 _ _ (k03 _ _ hla))⟩, ?_⟩
    refine for_it (walk_list (xs := lus)) (fun i σ H4 => ∃ v6 : Option V, (∀ b o, H3 b = some o → H4 b = some o) ∧ H4 D = some (.dK (touchK (lvOf (lettersM (pls f.ps)) ns) (touchL (f.ls.take i)))) ∧ σ = [some (.ref t), some (.ref b), some (.ref d), v3, v4, some (.ref D), v6])
      ⟨none, s4, upd_same, rfl⟩ (fun i H4 σ _ ⟨_, s5, _⟩ => SqL.of (s5 _ _ (k03 _ _ hla))) ?_ ?_
    · rintro i x σ H4 H5 hi ⟨v6, s5, hD, rfl⟩ ⟨rfl, hx⟩
      obtain ⟨lu, l, hl, hu, hr⟩ := hfR.at (i := i) (by omega)
      have hux := hu.symm.trans hx
      cases hux
      have hr5 := s5 _ _ (k03 _ _ hr)
      have hd5 := s5 _ _ hd3
      refine ⟨_, rfl, lu, _, _, _, rfl, rfl, SqT.of hr5, ln_at0 l, rfl, _, rfl, ?_⟩
      have e1 : decide (V.str l.nm = V.str "get") = (l.kd == 0) := nm_dec "get" (· == 0) (by decide +kernel) l
      have e2 : decide (V.str l.nm = V.str "put") = (l.kd == 16) := nm_dec "put" (· == 16) (by decide +kernel) l
      have yes : (l.kd == 0 || l.kd == 16) = true → sDPut (tVar 5) (tDGet2 (tVar 2) (tOp (rIxT K) (tVar 6) (tC (V.int 1))) (tOp (rIxT K) (tVar 6) (tC (V.int 1)))) (tC (V.bl true)) { nx := fun σ H4 => ∃ v6, (∀ (b : Addr) (o : HO), H3 b = some o → H4 b = some o) ∧ H4 D = some (HO.dK (touchK (lvOf (lettersM (pls f.ps)) ns) (touchL (List.take (i + 1) f.ls)))) ∧ σ = [some (V.ref t), some (V.ref b), some (V.ref d), v3, v4, some (V.ref D), v6], rt := Q } [some (V.ref t), some (V.ref b), some (V.ref d), v3, v4, some (V.ref D), some (V.ref lu)] H5 := fun c => by
        obtain ⟨a, ea, hea⟩ := gp_some l c
        have hkey : valV (lkv (lettersM (pls f.ps)) ns) (rgKey a) = rgLook (lvOf (lettersM (pls f.ps)) ns) a := by
          cases a with
          | l c => exact lkv_val (htc c (List.mem_filterMap.mpr ⟨l, List.mem_of_getElem? hl, ea⟩)) hnl
          | n j => exact lkv_int _ _ _
        have hget : (rgLook (lvOf (lettersM (pls f.ps)) ns) a).getD a.v = V.int (rgN (lvOf (lettersM (pls f.ps)) ns) a) := by
          cases a <;> rfl
        have hkv : a.v = kV (rgKey a) := by cases a <;> rfl
        obtain ⟨ks, k1, k2, k4⟩ := touchK_keys (lvOf (lettersM (pls f.ps)) ns) (touchL (f.ls.take i))
        have tl := touchL_len (f.ls.take i)
        rw [List.length_take] at tl
        have kl := congrArg List.length k1
        rw [List.length_map, List.length_map] at kl
        have etk : touchL (f.ls.take (i + 1)) = touchL (f.ls.take i) ++ [a] := by rw [touchL_take hl, ea]; rfl
        refine ⟨_, rfl, _, rfl, d, rfl, .inl ⟨_, .inl hd5⟩, _, rfl, lu, _, _, _, rfl, rfl, SqT.of hr5, ln_at1 hea, _, rfl, lu, _, _, _, rfl, rfl, SqT.of hr5, ln_at1 hea, _, .inl ⟨_, rgKey a, Rd.of hd5, hkv, hkey.symm⟩, ?_⟩
        rw [hget]
        refine ⟨D, _, rfl, .inl ⟨_, .inl (rgN (lvOf (lettersM (pls f.ps)) ns) a), hD, rfl, by omega, rfl⟩, ?_⟩
        refine ⟨_, fun b o e => ?_, ?_, rfl⟩
        · have bD : b ≠ D := fun z => by rw [z, D0] at e; cases e
          rw [upd_ne bD]; exact s5 _ _ e
        · rw [upd_same, etk, touchK_snoc]
      rw [e1]
      cases c1 : l.kd == 0 with
      | true => exact yes (by rw [c1]; rfl)
      | false =>
        refine ⟨_, rfl, lu, _, _, _, rfl, rfl, SqT.of hr5, ln_at0 l, rfl, _, rfl, ?_⟩
        rw [e2]
        cases c2 : l.kd == 16 with
        | true => exact yes (by rw [c2, Bool.or_true])
        | false =>
          refine ⟨_, s5, ?_, rfl⟩
          rw [touchL_take hl, gp_none l (by rw [c1, c2]; rfl)]
          show _ = some (HO.dK (touchK _ (_ ++ [])))
          rw [List.append_nil]; exact hD
    · rintro σ H4 ⟨v6, s5, hD, rfl⟩
      rw [List.take_of_length_le (by omega)] at hD
      obtain ⟨ks, k1, k2, k4⟩ := touchK_keys (lvOf (lettersM (pls f.ps)) ns) (touchL f.ls)
      have tl := touchL_len f.ls
      refine ⟨_, rfl, D, _, ks, rfl, Rd.of hD, k1, by omega, fun ys p hpm hps p0 => ?_⟩
      exact k _ p ys (fun b o e => same_new p0 _ _ (s5 _ _ (k03 _ _ e))) (by
        cases h : H p with
        | none => rfl
        | some o => rw [s5 _ _ (k03 _ _ h)] at p0; cases p0) upd_same ⟨ks, k1, hpm, hps⟩
end
end My

/-! LS -/
namespace My
open PySem L2
local macro_rules | `(tactic| walk_at "side") => `(tactic| first | with_reducible rfl | assumption | rfl | decide | omega | exact cpow1 (by omega) (by omega) | exact cdiv (by omega) (by omega) | exact two_pos _ | exact SqL.of (by assumption) | exact SqT.of (by assumption) | exact TyX.base (TyOf.int _) | exact TyX.base (TyOf.bl _) | exact TyX.base TyOf.non | exact scal_opt _ _ | exact k_ii | exact k_bi | exact k_ni | exact k_ib | exact k_bb | exact TyX.base (TyOf.lst (by assumption)) | exact k_ll | exact k_lt)
local macro_rules | `(tactic| walk_at "p") => `(tactic| repeat (first | refine And.intro (by walk_at "side") ?_ | apply Exists.intro | refine iteN (by assumption) ?_ | refine iteP (by assumption) ?_ | refine iteN (by decide) ?_ | refine iteP (by decide) ?_))

section
variable {P : Program} {w : World} {K : PySem.W.Frag} {mg : Str → Option Value} {base : Heap}
def sp_law_refused (T : Txt w K mg) : Sp := fun vs H Q _ => ∃ (b : Addr) (v : V) (F : List FM) (n r : Nat), vs = [.ref b, v] ∧ BookAt T.C_Book T.C_Form H b n r F ∧ NamedAt T.C_Book H b F ∧ BookOk n r F ∧ BadIns T H v F ∧ ∀ H', Same H H' → Q (.bl true) H'
theorem sp_law_refused_len {T : Txt w K mg} {vs H Q E} (h : sp_law_refused T vs H Q E) : vs.length = 2 := by obtain ⟨_, _, _, _, _, rfl, _⟩ := h; rfl
theorem ok_law_refused (T : Txt w K mg) : FnOk P w K mg base CX0 6 T.f_law_refused T.fd_law_refused ["_law_book", "_law_thing"] (sp_law_refused T) := by
  have G_named := ok_named (P := P) (w := w) (base := base) T
  refine T.F_law_refused.ok sc_law_refused (fun vs H Q E h => sp_law_refused_len h) (fun cdv A outer s H vs Q E hr h => ?_)
  obtain ⟨b, v, F, n, r, rfl, hB, hN, hK, hbad, k⟩ := h
  refine ⟨_, (pss_cons (ps_set (i := 2) sc_law_refused.nd rfl (Or.inl rfl) pe_non)
       (pss_cons (ps_set (i := 3) sc_law_refused.nd rfl (Or.inl rfl) pe_non)
       (pss_cons (ps_try_as (i := 4) (Wout := fun _ _ _ _ => False) rfl rfl sc_law_refused.nd rfl rfl ⟨rfl, by decide, Or.inl T.g_BadSource⟩ takes0
       (fun W pn xe tk _ => (pss_one (ps_expr (pe_callS G_named hr rfl T.g_named T.F_named.kp T.b_named (fun σ => passAt tk σ) (pa_cons (pv 0) (pa_cons (pv 1) pa_nil))))))
       (fun a oe cls d pn hz hf => (pss_cons (ps_set (i := 2) sc_law_refused.nd rfl (Or.inl rfl) (pe_xf T.xf_BadSource T.nf_BadSource hz hf (pv 4)))
       (pss_one (ps_set (i := 3) sc_law_refused.nd rfl (Or.inl rfl) (pe_not (pe_callB (call_isX T.xc_BadSource hz hf) (by rfl) T.n_isinstance (by decide +kernel) (pa_cons (pv 4) (pa_cons (pe_glob (v := .ref T.C_BadWords) (by rfl) T.g_BadWords rfl) pa_nil)))))))))
       (pss_one (ps_ret (pe_and (pe_cmpR op_isB (pv 3) pe_bl (nomark _)) (pe_one (pe_cmpR (op_eqD hr.units) (pv 2) pe_int (nomark _))))))))), ?_⟩
  have relC : ∀ (a : Addr) (u : Value), RelV (.ref a) u → u = .ref a := fun a u r => by cases r; rfl
  refine ⟨_, rfl, _, rfl, b, v, rfl, F, n, r, hB, hN, hK, .inl ⟨hbad, fun H' e s he => ?_⟩⟩
  refine ⟨true, T.te_BadSource, fun _ a ha => ?_, fun z => by cases z⟩
  refine ⟨_, rfl, rfl, rfl, e, _, _, rfl, upd_same, by rw [lk, if_pos rfl], ?_⟩
  refine ⟨_, rfl, rfl, ⟨e, _, rfl, upd_same⟩, .ref T.C_BadWords, .ref T.C_BadWords, false, rfl, relC _, T.ki_BadSource_BadWords, _, rfl, ?_⟩
  refine ⟨_, rfl, true, rfl, .inl ⟨true, rfl, ?_⟩⟩
  refine ⟨_, rfl, iteP rfl ?_⟩
  refine ⟨_, rfl, _, _, .int 0, .int 0, shI' 0, shI' 0, ?_⟩
  rw [show PyData.eqv (.int 0) (.int 0) = true by simp [PyData.eqv]]
  exact k _ (s.trans (same_new he))
end
end My

/-! LT -/
namespace My
open PySem L2
local macro_rules | `(tactic| walk_at "side") => `(tactic| first | with_reducible rfl | assumption | rfl | decide | omega | exact cpow1 (by omega) (by omega) | exact cdiv (by omega) (by omega) | exact two_pos _ | exact SqL.of (by assumption) | exact SqT.of (by assumption) | exact TyX.base (TyOf.int _) | exact TyX.base (TyOf.bl _) | exact TyX.base TyOf.non | exact scal_opt _ _ | exact k_ii | exact k_bi | exact k_ni | exact k_ib | exact k_bb | exact TyX.base (TyOf.lst (by assumption)) | exact k_ll | exact k_lt)
local macro_rules | `(tactic| walk_at "p") => `(tactic| repeat (first | refine And.intro (by walk_at "side") ?_ | apply Exists.intro | refine iteN (by assumption) ?_ | refine iteP (by assumption) ?_ | refine iteN (by decide) ?_ | refine iteP (by decide) ?_))

def Ask.pd : Ask → PyData
  | .read x => .tuple [.str "read", .int x] | .write x y => .tuple [.str "write", .int x, .int y] | .inp p => .tuple [.str "in", .int (p : Nat)] | .out p x => .tuple [.str "out", .int (p : Nat), .int x]
theorem dp_ask {K : PySem.W.Frag} {H : Hp} {t : Addr} {a : Ask} (h : AskAt H t a) : Dp K H (.ref t) a.pd := by
  unfold AskAt at h
  cases a with
  | read x => exact .tup (SqT.of h) (.cons (.str _) (.cons (.int _) .nil))
  | inp x => exact .tup (SqT.of h) (.cons (.str _) (.cons (.int _) .nil))
  | write x y => exact .tup (SqT.of h) (.cons (.str _) (.cons (.int _) (.cons (.int _) .nil)))
  | out x y => exact .tup (SqT.of h) (.cons (.str _) (.cons (.int _) (.cons (.int _) .nil)))
theorem ask_facts (a : Ask) : a.pd.canLay0 = true ∧ a.pd.depth ≤ 2 ∧ PyData.eqv a.pd a.pd = true := by
  have e1 : PyData.strOk (Str.ofString "read") = true := by decide +kernel
  have e2 : PyData.strOk (Str.ofString "write") = true := by decide +kernel
  have e3 : PyData.strOk (Str.ofString "in") = true := by decide +kernel
  have e4 : PyData.strOk (Str.ofString "out") = true := by decide +kernel
  cases a <;> simp [Ask.pd, PyData.canLay0, PyData.canLayAll0, PyData.depth, PyData.depthAll, PyData.eqv, PyData.eqvAll, e1, e2, e3, e4]
theorem asks_facts : ∀ as : List Ask, PyData.canLayAll0 (as.map Ask.pd) = true ∧ PyData.depthAll (as.map Ask.pd) ≤ 3 ∧ PyData.eqvAll (as.map Ask.pd) (as.map Ask.pd) = true
  | [] => by simp [PyData.canLayAll0, PyData.depthAll, PyData.eqvAll]
  | a :: r => by
    obtain ⟨h1, h2, h3⟩ := ask_facts a
    obtain ⟨g1, g2, g3⟩ := asks_facts r
    refine ⟨?_, ?_, ?_⟩
    · simp [PyData.canLayAll0, h1, g1]
    · simp [PyData.depthAll]; omega
    · simp [PyData.eqvAll, h3, g3]
theorem dpAll_asks {K : PySem.W.Frag} {H : Hp} : ∀ (ts : List V) (as : List Ask), Refs H ts as AskAt → DpAll K H ts (as.map Ask.pd)
  | [], [], _ => .nil
  | [], a :: as, h => by cases h.1
  | t :: ts, [], h => by cases h.1
  | t :: ts, a :: as, h => by
    obtain ⟨u, e, hu⟩ := h.2 0 a rfl
    cases e
    exact .cons (dp_ask hu) (dpAll_asks ts as ⟨by have := h.1; simpa using this, fun i x e => h.2 (i + 1) x e⟩)
theorem neAsks {K : PySem.W.Frag} {H : Hp} {a b : Addr} {ts us : List V} {as : List Ask} {Q : VK} (ha : H a = some (.tup ts)) (hb : H b = some (.tup us)) (h1 : Refs H ts as AskAt) (h2 : Refs H us as AskAt) (k : Q (.bl false) H) : rNeD K (.ref a) (.ref b) H Q := by
  obtain ⟨g1, g2, g3⟩ := asks_facts as
  have sh : SeqAt.shaped (.tuple (as.map Ask.pd)) = true := by simp [SeqAt.shaped, PyData.canLay0, PyData.depth, g1]; omega
  exact ⟨_, _, .tup (SqT.of ha) (dpAll_asks _ _ h1), .tup (SqT.of hb) (dpAll_asks _ _ h2), sh, sh, by rw [show PyData.eqv (.tuple (as.map Ask.pd)) (.tuple (as.map Ask.pd)) = true by simp [PyData.eqv, g3]]; exact k⟩
def causeOk (v : V) : Prop := v = .non ∨ ∃ i : Int, v = .int i
theorem ne3 {K : PySem.W.Frag} {H : Hp} {a b : Addr} {c : V} {x y : Int} {Q : VK} (hc : causeOk c) (ha : H a = some (.tup [c, .int x, .int y])) (hb : H b = some (.tup [c, .int x, .int y])) (k : Q (.bl false) H) : rNeD K (.ref a) (.ref b) H Q := by
  rcases hc with rfl | ⟨i, rfl⟩
  · have sh : SeqAt.shaped (.tuple [.none, .int x, .int y]) = true := by simp [SeqAt.shaped, PyData.canLay0, PyData.canLayAll0, PyData.depth, PyData.depthAll]
    exact ⟨_, _, .tup (SqT.of ha) (.cons .non (.cons (.int _) (.cons (.int _) .nil))), .tup (SqT.of hb) (.cons .non (.cons (.int _) (.cons (.int _) .nil))), sh, sh, by rw [show PyData.eqv (.tuple [.none, .int x, .int y]) (.tuple [.none, .int x, .int y]) = true by simp [PyData.eqv, PyData.eqvAll]]; exact k⟩
  · have sh : SeqAt.shaped (.tuple [.int i, .int x, .int y]) = true := by simp [SeqAt.shaped, PyData.canLay0, PyData.canLayAll0, PyData.depth, PyData.depthAll]
    exact ⟨_, _, .tup (SqT.of ha) (.cons (.int _) (.cons (.int _) (.cons (.int _) .nil))), .tup (SqT.of hb) (.cons (.int _) (.cons (.int _) (.cons (.int _) .nil))), sh, sh, by rw [show PyData.eqv (.tuple [.int i, .int x, .int y]) (.tuple [.int i, .int x, .int y]) = true by simp [PyData.eqv, PyData.eqvAll]]; exact k⟩
theorem cut3 (a b c d : V) : ¬ (HT.sIx ([a, b, c, d] : List V).length 0 none = 0 ∧ HT.sIx ([a, b, c, d] : List V).length ([a, b, c, d] : List V).length (some 3) = ([a, b, c, d] : List V).length) := by
  show ¬ (HT.sIx 4 0 none = 0 ∧ HT.sIx 4 4 (some 3) = 4)
  decide
section
variable {P : Program} {w : World} {K : PySem.W.Frag} {mg : Str → Option Value} {base : Heap}
/-- alike but at q -/
structure Alike (q : Nat) (h g : Hand) : Prop where
  c : h.cause = g.cause
  d : h.done = g.done
  p : h.place = g.place
  l : h.regs.length = g.regs.length
  r : ∀ (k : Nat) (x y : Int), k ≠ q → h.regs[k]? = some x → g.regs[k]? = some y → x = y
def sp_law_same_run (_ : Txt w K mg) : Sp := fun vs H Q _ => ∃ (a b : Addr) (as : List Ask) (h g : Hand) (q : Nat) (x y : Int), vs = [.ref a, .ref b, .int (q : Nat), .int x, .int y] ∧ RunAt H a as h ∧ RunAt H b as g ∧ Alike q h g ∧ causeOk h.cause ∧ h.regs[q]? = some x ∧ g.regs[q]? = some y ∧ h.regs.length ≤ 1000 ∧ ∀ H', Same H H' → Q (.bl true) H'
theorem sp_law_same_run_len {T : Txt w K mg} {vs H Q E} (h : sp_law_same_run T vs H Q E) : vs.length = 5 := by obtain ⟨_, _, _, _, _, _, _, _, rfl, _⟩ := h; rfl
theorem ok_law_same_run (T : Txt w K mg) : FnOk P w K mg base CX0 1 T.f_law_same_run T.fd_law_same_run ["_law_one", "_law_other", "_law_q", "_law_before", "_law_after"] (sp_law_same_run T) := by
  skip
  refine T.F_law_same_run.ok sc_law_same_run (fun vs H Q E h => sp_law_same_run_len h) (fun cdv A outer s H vs Q E hr h => ?_)
  obtain ⟨a, b, as, ⟨hc, hdn, hpl, hrg⟩, ⟨gc, gdn, gpl, grg⟩, q, x, y, rfl, ⟨sa, ha, ts, ht, hsa, hR, rt, hha, hrt⟩, ⟨sb, hb, us, hu, hsb, hS, ru, hhb, hru⟩, ⟨e1, e2, e3, e4, e5⟩, hco, hx, hy, h1000, k⟩ := h
  dsimp only at *
  subst e1 e2 e3
  refine ⟨_, (pss_cons (ps_if (PW.pt (pw_or (pt_not (pt_val (pe_callB call_isTy (by rfl) T.n_isinstance (by decide +kernel) (pa_cons (pv 0) (pa_cons (pe_bltn (v := .ty "tuple") (by rfl) T.n_tuple (by decide +kernel) rfl) pa_nil))))) (pw_or (pt_not (pt_val (pe_callB call_isTy (by rfl) T.n_isinstance (by decide +kernel) (pa_cons (pv 1) (pa_cons (pe_bltn (v := .ty "tuple") (by rfl) T.n_tuple (by decide +kernel) rfl) pa_nil))))) (pw_or (pt_cmpR op_ne (pe_callB call_lenT (by rfl) T.n_len (by decide +kernel) (pa_cons (pv 0) pa_nil)) pe_int (nomark _)) (pw_or1 (pt_cmpR op_ne (pe_callB call_lenT (by rfl) T.n_len (by decide +kernel) (pa_cons (pv 1) pa_nil)) pe_int (nomark _)))))))
        (pss_one (ps_ret pe_bl))
        pss_nil)
       (pss_cons (ps_if (PW.pt (pw_or (pt_cmpR (op_neD hr.units) (pe_ix ix_tup (pv 0) pe_int (fun _ _ => rfl)) (pe_ix ix_tup (pv 1) pe_int (fun _ _ => rfl)) (nomark _)) (pw_or (pt_cmpR (op_neD hr.units) (pe_slice sl_tup (pe_ix ix_tup (pv 0) pe_int (fun _ _ => rfl)) po_none (po_some pe_int)) (pe_slice sl_tup (pe_ix ix_tup (pv 1) pe_int (fun _ _ => rfl)) po_none (po_some pe_int)) (nomark _)) (pw_or (pt_cmpR op_ne (pe_callB call_lenT (by rfl) T.n_len (by decide +kernel) (pa_cons (pe_ix ix_tup (pv 0) pe_int (fun _ _ => rfl)) pa_nil)) pe_int (nomark _)) (pw_or1 (pt_cmpR op_ne (pe_callB call_lenT (by rfl) T.n_len (by decide +kernel) (pa_cons (pe_ix ix_tup (pv 1) pe_int (fun _ _ => rfl)) pa_nil)) pe_int (nomark _)))))))
        (pss_one (ps_ret pe_bl))
        pss_nil)
       (pss_cons (ps_if (PW.pt (pw_or (pt_cmpR op_ne (pe_callB call_lenT (by rfl) T.n_len (by decide +kernel) (pa_cons (pe_ix ix_tup (pe_ix ix_tup (pv 0) pe_int (fun _ _ => rfl)) pe_int (fun _ _ => rfl)) pa_nil)) (pe_callB call_lenT (by rfl) T.n_len (by decide +kernel) (pa_cons (pe_ix ix_tup (pe_ix ix_tup (pv 1) pe_int (fun _ _ => rfl)) pe_int (fun _ _ => rfl)) pa_nil)) (nomark _)) (pw_or (pt_cmpR op_ne (pe_ix ix_tup (pe_ix ix_tup (pe_ix ix_tup (pv 0) pe_int (fun _ _ => rfl)) pe_int (fun _ _ => rfl)) (pv 2) (fun _ _ => rfl)) (pv 3) (nomark _)) (pw_or1 (pt_cmpR op_ne (pe_ix ix_tup (pe_ix ix_tup (pe_ix ix_tup (pv 1) pe_int (fun _ _ => rfl)) pe_int (fun _ _ => rfl)) (pv 2) (fun _ _ => rfl)) (pv 4) (nomark _))))))
        (pss_one (ps_ret pe_bl))
        pss_nil)
       (pss_cons (ps_for PassesOwn.never rfl (pi_range1 (by rfl) T.n_range (pa_cons (pe_callB call_lenT (by rfl) T.n_len (by decide +kernel) (pa_cons (pe_ix ix_tup (pe_ix ix_tup (pv 0) pe_int (fun _ _ => rfl)) pe_int (fun _ _ => rfl)) pa_nil)) pa_nil)) (pg_name (i := 5) sc_law_same_run.nd rfl (Or.inl rfl))
        (pss_one (ps_if (PW.pt (pw_and (pt_cmpR op_ne (pv 5) (pv 2) (nomark _)) (pw_and1 (pt_cmpR op_ne (pe_ix ix_tup (pe_ix ix_tup (pe_ix ix_tup (pv 0) pe_int (fun _ _ => rfl)) pe_int (fun _ _ => rfl)) (pv 5) (fun _ _ => rfl)) (pe_ix ix_tup (pe_ix ix_tup (pe_ix ix_tup (pv 1) pe_int (fun _ _ => rfl)) pe_int (fun _ _ => rfl)) (pv 5) (fun _ _ => rfl)) (nomark _)))))
        (pss_one (ps_ret pe_bl))
        pss_nil)))
       (pss_one (ps_ret pe_bl)))))), ?_⟩
  refine ⟨_, rfl, _, _, _, rfl, .base (.tup ht), _, k_tt, _, rfl, iteN (by decide) ?_⟩
  refine ⟨_, rfl, _, _, _, rfl, .base (.tup hu), _, k_tt, _, rfl, iteN (by decide) ?_⟩
  refine ⟨_, rfl, a, _, rfl, SqT.of ht, rfl, _, rfl, iteN (by simp) ?_⟩
  refine ⟨_, rfl, b, _, rfl, SqT.of hu, rfl, _, rfl, iteN (by simp) ?_⟩
  refine ⟨_, rfl, a, _, _, _, rfl, rfl, SqT.of ht, rfl, _, rfl, b, _, _, _, rfl, rfl, SqT.of hu, rfl, neAsks hsa hsb hR hS ⟨_, rfl, iteN (by decide) ?_⟩⟩
  refine ⟨_, rfl, a, _, _, _, rfl, rfl, SqT.of ht, rfl, _, rfl, ha, _, rfl, SqT.of hha, cut3 _ _ _ _, fun p p0 => ?_⟩
  have s1 := same_new (o := .tup (cutV [hc, .int hdn, .int hpl, .ref rt] none (some 3))) p0
  refine ⟨_, rfl, b, _, _, _, rfl, rfl, SqT.of (s1 _ _ hu), rfl, _, rfl, hb, _, rfl, SqT.of (s1 _ _ hhb), cut3 _ _ _ _, fun p' p'0 => ?_⟩
  have s2 := same_new (o := .tup (cutV [hc, .int hdn, .int hpl, .ref ru] none (some 3))) p'0
  refine ne3 hco (s2 _ _ upd_same) upd_same ⟨_, rfl, iteN (by decide) ?_⟩
  have s12 := s1.trans s2
  generalize upd (upd H p (.tup (cutV [hc, .int hdn, .int hpl, .ref rt] none (some 3)))) p' (.tup (cutV [hc, .int hdn, .int hpl, .ref ru] none (some 3))) = H2 at s12 ⊢
  have ht := s12 _ _ ht
  have hu := s12 _ _ hu
  have hha := s12 _ _ hha
  have hhb := s12 _ _ hhb
  have hrt := s12 _ _ hrt
  have hru := s12 _ _ hru
  refine ⟨_, rfl, a, _, _, _, rfl, rfl, SqT.of ht, rfl, ha, _, rfl, SqT.of hha, rfl, _, rfl, iteN (by simp) ?_⟩
  refine ⟨_, rfl, b, _, _, _, rfl, rfl, SqT.of hu, rfl, hb, _, rfl, SqT.of hhb, rfl, _, rfl, iteN (by simp) ?_⟩
  refine ⟨_, rfl, a, _, _, _, rfl, rfl, SqT.of ht, rfl, ha, _, _, _, rfl, rfl, SqT.of hha, rfl, rt, _, rfl, SqT.of hrt, _, rfl, b, _, _, _, rfl, rfl, SqT.of hu, rfl, hb, _, _, _, rfl, rfl, SqT.of hhb, rfl, ru, _, rfl, SqT.of hru, rfl, _, rfl, iteN (by rw [intsV_len, intsV_len, e4]; simp) ?_⟩
  refine ⟨_, rfl, a, _, _, _, rfl, rfl, SqT.of ht, rfl, ha, _, _, _, rfl, rfl, SqT.of hha, rfl, _, rfl, rt, _, _, _, rfl, rfl, SqT.of hrt, atI_nat (intsV_at hx), _, rfl, rfl, _, rfl, iteN (by simp) ?_⟩
  refine ⟨_, rfl, b, _, _, _, rfl, rfl, SqT.of hu, rfl, hb, _, _, _, rfl, rfl, SqT.of hhb, rfl, _, rfl, ru, _, _, _, rfl, rfl, SqT.of hru, atI_nat (intsV_at hy), _, rfl, rfl, _, rfl, iteN (by simp) ?_⟩
  refine ⟨_, rfl, a, _, _, _, rfl, rfl, SqT.of ht, rfl, ha, _, _, _, rfl, rfl, SqT.of hha, rfl, rt, _, rfl, SqT.of hrt, _, rfl, by rw [intsV_len]; omega, by rw [intsV_len]; omega, ?_⟩
  refine for_range (lo := 0) (n := (((intsV hrg).length : Nat) : Int).toNat) (fun i σ H1 => H1 = H2 ∧ ∃ v5 : Option V, σ = [some (.ref a), some (.ref b), some (.int (q : Nat)), some (.int x), some (.int y), v5]) ⟨rfl, none, rfl⟩ ?_ ?_
  · rintro i σ H1 hi ⟨rfl, v5, rfl⟩
    rw [Int.toNat_natCast, intsV_len] at hi
    obtain ⟨xi, hxi⟩ := getElem_lt hrg hi
    obtain ⟨yi, hyi⟩ := getElem_lt grg (i := i) (by omega)
    have ex : atI (intsV hrg) (0 + (i : Int)) = some (.int xi) := by rw [Int.zero_add]; exact atI_nat (intsV_at hxi)
    have ey : atI (intsV grg) (0 + (i : Int)) = some (.int yi) := by rw [Int.zero_add]; exact atI_nat (intsV_at hyi)
    refine ⟨_, rfl, _, rfl, rfl, _, rfl, ?_⟩
    by_cases hq : i = q
    · refine iteN (by subst hq; simp) ?_
      exact ⟨rfl, _, rfl⟩
    · have := e5 i xi yi hq hxi hyi
      subst this
      refine iteP (by rw [Int.zero_add]; simp; omega) ?_
      refine ⟨_, rfl, a, _, _, _, rfl, rfl, SqT.of ht, rfl, ha, _, _, _, rfl, rfl, SqT.of hha, rfl, _, rfl, rt, _, _, _, rfl, rfl, SqT.of hrt, ex, _, rfl, b, _, _, _, rfl, rfl, SqT.of hu, rfl, hb, _, _, _, rfl, rfl, SqT.of hhb, rfl, _, rfl, ru, _, _, _, rfl, rfl, SqT.of hru, ey, rfl, _, rfl, iteN (by simp) ?_⟩
      exact ⟨rfl, _, rfl⟩
  · rintro σ H1 ⟨rfl, v5, rfl⟩
    exact k _ s12
end
end My

/-! M19 -/
/-! a register that no line names -/
namespace My
open PySem L2
/-- no line names q -/
def noQ (lv : Nat → Int) (q : Nat) (ls : List Ln) : Prop := ∀ l ∈ ls, ∀ a, rgOf l = some a → (rgN lv a).toNat ≠ q
/-- alike but at q -/
def offQ (q : Nat) (xs ys : List Int) : Prop := xs.length = ys.length ∧ ∀ k, k ≠ q → xs[k]? = ys[k]?
theorem putR_off (lv : Nat → Int) (ws : WS) (q : Nat) : ∀ (ls : List Ln) (xs ys : List Int), noQ lv q ls → offQ q xs ys → offQ q (putR lv ws ls xs) (putR lv ws ls ys) ∧ (putR lv ws ls xs)[q]? = xs[q]? ∧ (putR lv ws ls xs).length = xs.length
  | [], xs, ys, _, h => ⟨h, rfl, rfl⟩
  | l :: r, xs, ys, hn, h => by
    have hr : noQ lv q r := fun x hx => hn x (List.mem_cons_of_mem _ hx)
    have same : offQ q (putR lv ws r xs) (putR lv ws r ys) ∧ (putR lv ws r xs)[q]? = xs[q]? ∧ (putR lv ws r xs).length = xs.length := putR_off lv ws q r xs ys hr h
    cases l with
    | put a i =>
      have na := hn (.put a i) List.mem_cons_self a rfl
      have h' : offQ q (xs.set (rgN lv a).toNat (wd ws i)) (ys.set (rgN lv a).toNat (wd ws i)) := by
        refine ⟨by rw [List.length_set, List.length_set]; exact h.1, fun k hk => ?_⟩
        rw [List.getElem?_set, List.getElem?_set, h.1, h.2 k hk]
      obtain ⟨g1, g2, g3⟩ := putR_off lv ws q r _ _ hr h'
      refine ⟨g1, ?_, by rw [show putR lv ws (.put a i :: r) xs = putR lv ws r (xs.set (rgN lv a).toNat (wd ws i)) from rfl, g3, List.length_set]⟩
      rw [show putR lv ws (.put a i :: r) xs = putR lv ws r (xs.set (rgN lv a).toNat (wd ws i)) from rfl, g2, List.getElem?_set, if_neg na]
    | _ => exact same
theorem valN_off (E : RE) (ys : List Int) (q : Nat) (ws : WS) (l : Ln) (h : offQ q E.regs ys) (hn : ∀ a, rgOf l = some a → (rgN E.lv a).toNat ≠ q) : valN { E with regs := ys } ws l = valN E ws l := by
  cases l with
  | get a =>
    show (ys[(rgN E.lv a).toNat]?).getD 0 = (E.regs[(rgN E.lv a).toNat]?).getD 0
    rw [h.2 _ (hn a rfl)]
  | _ => rfl
theorem runL_off (E : RE) (ys : List Int) (q : Nat) (all : List Ln) (ans : WS) (h : offQ q E.regs ys) (ha : noQ E.lv q all) (x y : Int) (hx : E.regs[q]? = some x) (hy : ys[q]? = some y) :
    ∀ (ls : List Ln) (ws : WS) (as : List Ask), noQ E.lv q ls → (runL E all ans ls ws as).1 = (runL { E with regs := ys } all ans ls ws as).1 ∧ Alike q (runL E all ans ls ws as).2 (runL { E with regs := ys } all ans ls ws as).2 ∧ causeOk (runL E all ans ls ws as).2.cause ∧
      (runL E all ans ls ws as).2.regs[q]? = some x ∧ (runL { E with regs := ys } all ans ls ws as).2.regs[q]? = some y ∧ (runL E all ans ls ws as).2.regs.length = E.regs.length := by
  have off2 : offQ q ys E.regs := ⟨h.1.symm, fun k hk => (h.2 k hk).symm⟩
  have al : ∀ {xs zs : List Int}, offQ q xs zs → ∀ (k : Nat) (x y : Int), k ≠ q → xs[k]? = some x → zs[k]? = some y → x = y := fun h k x y hk e1 e2 => by
    rw [h.2 k hk, e2] at e1
    exact (Option.some.inj e1).symm
  have stop : ∀ (c : V) (as : List Ask), causeOk c → as = as ∧ Alike q (stopN E c) (stopN { E with regs := ys } c) ∧ causeOk (stopN E c).cause ∧ (stopN E c).regs[q]? = some x ∧ (stopN { E with regs := ys } c).regs[q]? = some y ∧ (stopN E c).regs.length = E.regs.length := fun c as hc =>
    ⟨rfl, ⟨rfl, rfl, rfl, h.1, al h⟩, hc, hx, hy, rfl⟩
  intro ls
  induction ls with
  | nil =>
    intro ws as _
    obtain ⟨g1, g2, g3⟩ := putR_off E.lv ws q all _ _ ha h
    obtain ⟨_, f2, _⟩ := putR_off E.lv ws q all _ _ ha off2
    exact ⟨rfl, ⟨rfl, rfl, rfl, g1.1, al g1⟩, .inl rfl, g2.trans hx, f2.trans hy, g3⟩
  | cons l r ih =>
    intro ws as hn
    have hr : noQ E.lv q r := fun x hx => hn x (List.mem_cons_of_mem _ hx)
    unfold runL
    by_cases hA : l.isA = true
    · rw [if_pos hA, if_pos hA]
      cases ansAt ans as.length with
      | none =>
        have hc : causeOk (causeV l) := by
          cases l with
          | read i => exact .inr ⟨_, rfl⟩
          | write i j => exact .inr ⟨_, rfl⟩
          | _ => exact .inl rfl
        exact stop (causeV l) _ hc
      | some a => exact ih _ _ hr
    · rw [if_neg hA, if_neg hA]
      have hv := valN_off E ys q ws l h (hn l List.mem_cons_self)
      cases l with
      | must i c =>
        dsimp only
        by_cases hw : wd ws i = 0
        · rw [if_pos hw, if_pos hw]; exact stop _ _ (.inr ⟨_, rfl⟩)
        · rw [if_neg hw, if_neg hw]; exact ih _ _ hr
      | put a i => exact ih _ _ hr
      | goto i => exact ih _ _ hr
      | _ => dsimp only; rw [hv]; exact ih _ _ hr
/-- what is not among the registers named is named by no line -/
theorem noQ_of {lv : Nat → Int} {ls : List Ln} {ys : List Int} {q : Nat} (h : NamedL lv ls ys) (hq : (q : Int) ∉ ys) (h0 : ∀ a ∈ touchL ls, 0 ≤ rgN lv a) : noQ lv q ls := by
  obtain ⟨ks, k1, k2, _⟩ := h
  obtain ⟨ks', g1, g2, _⟩ := touchK_keys lv (touchL ls)
  have : ks = ks' := List.map_inj_right (fun _ _ h => Sum.inl.inj h) |>.mp (k1.symm.trans g1)
  subst this
  intro l hl a ha e
  have ht : a ∈ touchL ls := List.mem_filterMap.mpr ⟨l, hl, ha⟩
  refine hq (k2.mem_iff.mpr ((g2 _).mpr ⟨a, ht, ?_⟩))
  have := h0 a ht
  omega
end My

/-! LU -/
namespace My
open PySem L2
local macro_rules | `(tactic| walk_at "side") => `(tactic| first | with_reducible rfl | assumption | rfl | decide | omega | exact cpow1 (by omega) (by omega) | exact cdiv (by omega) (by omega) | exact two_pos _ | exact SqL.of (by assumption) | exact SqT.of (by assumption) | exact TyX.base (TyOf.int _) | exact TyX.base (TyOf.bl _) | exact TyX.base TyOf.non | exact scal_opt _ _ | exact k_ii | exact k_bi | exact k_ni | exact k_ib | exact k_bb | exact TyX.base (TyOf.lst (by assumption)) | exact k_ll | exact k_lt)
local macro_rules | `(tactic| walk_at "p") => `(tactic| repeat (first | refine And.intro (by walk_at "side") ?_ | apply Exists.intro | refine iteN (by assumption) ?_ | refine iteP (by assumption) ?_ | refine iteN (by decide) ?_ | refine iteP (by decide) ?_))

theorem NL.kp {p q : Addr} {H H' : Hp} (d : Dr H p q) (s : KP p H H') : NL H H' := fun b o e hn => s b o e fun z => by
  obtain ⟨_, _, e', _⟩ := d
  rw [z, e'] at e
  cases e
  exact hn _ rfl
theorem RunAt.nl {H H' : Hp} {t : Addr} {as : List Ask} {h : Hand} (r : RunAt H t as h) (s : NL H H') : RunAt H' t as h := by
  obtain ⟨sa, ht, ts, h1, h2, h3, rt, h4, h5⟩ := r
  have tp : ∀ b xs, H b = some (.tup xs) → H' b = some (.tup xs) := fun b xs e => s _ _ e fun _ z => by cases z
  exact ⟨sa, ht, ts, tp _ _ h1, tp _ _ h2, h3.map fun u x _ e => tp _ _ e, rt, tp _ _ h4, tp _ _ h5⟩
theorem NamedAt.nl {CB : Addr} {H H' : Hp} {p : Addr} {F : List FM} (h : NamedAt CB H p F) (s : NL H H') : NamedAt CB H' p F := by
  obtain ⟨dx, n, r, ft, nd, tx, us, kvs, h1, h2, h3, h4⟩ := h
  exact ⟨dx, n, r, ft, nd, tx, us, kvs, s _ _ h1 (fun _ z => by cases z), s _ _ h2 (fun _ z => by cases z), s _ _ h3 (fun _ z => by cases z), h4⟩
theorem RowP.kp {p q : Addr} {H H' : Hp} {t : Addr} {f : FM} (h : RowP H t f) (d : Dr H p q) (s : KP p H H') : RowP H' t f := by
  have nl := NL.kp d s
  obtain ⟨pa, la, us, h1, h2, h3, h4⟩ := h
  have tp : ∀ b xs, H b = some (.tup xs) → H' b = some (.tup xs) := fun b xs e => nl _ _ e fun _ z => by cases z
  have pap : pa ≠ p := d.ne_of h2 fun k z => by
    cases hp : f.ps with
    | nil => rw [hp] at z; cases z
    | cons a r => rw [hp] at z; cases z
  have lap : la ≠ p := d.ne_of h3 fun k z => by
    have hl := h4.1
    rw [z] at hl
    obtain ⟨u, l, e1, e2, _⟩ := h4.at (i := 0) (by simp at hl; omega)
    rw [z] at e2
    cases e2
  exact ⟨pa, la, us, tp _ _ h1, s _ _ h2 pap, s _ _ h3 lap, h4.map fun u x _ e => tp _ _ e⟩
theorem natsV_ints (ns : List Nat) : natsV ns = intsV (ns.map fun (c : Nat) => (c : Int)) := by unfold natsV intsV; rw [List.map_map]; rfl
theorem fitN_L {L : List (Nat × Nat)} {ns : List Nat} (h : fitN L ns) : fitL L (intsV (ns.map fun (c : Nat) => (c : Int))) = true := by
  refine fit_all.mpr ⟨by rw [intsV_len, List.length_map, h.1], fun i q x h1 h2 => ?_⟩
  rw [← natsV_ints] at h2
  unfold natsV at h2
  rw [List.getElem?_map] at h2
  cases hn : ns[i]? with
  | none => rw [hn] at h2; cases h2
  | some c =>
    rw [hn] at h2
    cases h2
    have := h.2 i q c h1 hn
    have e : ((2 ^ q.2 : Nat) : Int) = 2 ^ q.2 := Int.natCast_pow 2 _
    exact decide_eq_true ⟨by omega, by omega⟩
theorem touch_reg {n r : Nat} {L : List Nat} {ls : List Ln} (h : LnsOk n r L ls) : ∀ a ∈ touchL ls, regR r L a := fun a ha => by
  obtain ⟨l, hl, e⟩ := List.mem_filterMap.mp ha
  obtain ⟨i, hi⟩ := List.getElem?_of_mem hl
  have := h.ok i l hi
  cases l with
  | get b => cases e; exact this
  | put b j => cases e; exact this.1
  | _ => cases e
theorem intsFlat (xs : List Int) : (intsV xs).all flatV = true := by unfold intsV; rw [List.all_map]; exact List.all_eq_true.mpr fun _ _ => rfl
theorem inInts (z : Int) : ∀ xs : List Int, inV (V.int z) (intsV xs) = decide (z ∈ xs)
  | [] => rfl
  | y :: r => by
    have ih := inInts z r
    unfold inV at ih ⊢
    unfold intsV at ih ⊢
    rw [List.map_cons, List.any_cons, ih]
    show (decide _ || _) = _
    by_cases h : y = z
    · subst h; simp [eqV]
    · have h' : z ≠ y := fun e => h e.symm
      simp [eqV, h, h']
section
variable {P : Program} {w : World} {K : PySem.W.Frag} {mg : Str → Option Value} {base : Heap}
/-- what stands while the law draws -/
structure OneW (T : Txt w K mg) (H : Hp) (p q b t na : Addr) (F : List FM) (f : FM) (ns : List Int) (n r : Nat) : Prop where
  dr : Dr H p q
  bk : BookAt T.C_Book T.C_Form H b n r F
  nd : NamedAt T.C_Book H b F
  rw : RowP H t f
  na : H na = some (.lst (intsV ns))
theorem OneW.kp {T : Txt w K mg} {H H' : Hp} {p q b t na : Addr} {F : List FM} {f : FM} {ns : List Int} {n r : Nat} (h : OneW T H p q b t na F f ns n r) (nap : na ≠ p) (s : KP p H H') (d : Dr H' p q) : OneW T H' p q b t na F f ns n r :=
  ⟨d, h.bk.nl (NL.kp h.dr s), h.nd.nl (NL.kp h.dr s), h.rw.kp h.dr s, s _ _ h.na nap⟩
theorem OneW.news {T : Txt w K mg} {H H' : Hp} {p q b t na : Addr} {F : List FM} {f : FM} {ns : List Int} {n r : Nat} (h : OneW T H p q b t na F f ns n r) (s : Same H H') : OneW T H' p q b t na F f ns n r :=
  ⟨h.dr.news s, h.bk.news s, h.nd.news s, h.rw.news s, s _ _ h.na⟩
def sp_law_one_word (T : Txt w K mg) : Sp := fun vs H Q _ => ∃ (p q b t na : Addr) (F : List FM) (f : FM) (ns : List Nat) (n r : Nat), vs = [.ref p, .ref b, .ref t, .ref na, .int (n : Nat), .int (r : Nat)] ∧ OneW T H p q b t na F f (ns.map fun (c : Nat) => (c : Int)) n r ∧ p ≠ q ∧ na ≠ p ∧ BookOk n r F ∧ (∃ i : Nat, F[i]? = some f) ∧ fitN (lettersM (pls f.ps)) ns ∧
  ∀ H', Dr H' p q → KP p H H' → Q (.bl true) H'
theorem sp_law_one_word_len {T : Txt w K mg} {vs H Q E} (h : sp_law_one_word T vs H Q E) : vs.length = 6 := by obtain ⟨_, _, _, _, _, _, _, _, _, _, rfl, _⟩ := h; rfl
theorem ok_law_one_word (T : Txt w K mg) : FnOk P w K mg base CX0 8 T.f_law_one_word T.fd_law_one_word ["_law_draws_here", "_law_book", "_law_row", "_law_numbers", "_law_word_here", "_law_registers"] (sp_law_one_word T) := by
  have G_law_is_code := ok_law_is_code (P := P) (w := w) (base := base) T; have G_law_same_run := ok_law_same_run (P := P) (w := w) (base := base) T; have G_law_take := ok_law_take (P := P) (w := w) (base := base) T; have G_law_touched := ok_law_touched (P := P) (w := w) (base := base) T; have G_law_word := ok_law_word (P := P) (w := w) (base := base) T; have G_named := ok_named (P := P) (w := w) (base := base) T; have G_run_code := ok_run_code (P := P) (w := w) (base := base) T
  refine T.F_law_one_word.ok sc_law_one_word (fun vs H Q E h => sp_law_one_word_len h) (fun cdv A outer s H vs Q E hr h => ?_)
  obtain ⟨p, q, b, t, na, F, f, ns, n, r, rfl, hW, hpq, nap, hK, ⟨fi, hfi⟩, hfN, k⟩ := h
  refine ⟨_, (pss_cons (ps_set (i := 6) sc_law_one_word.nd rfl (Or.inl rfl) (pe_call G_law_touched (hr.mono (by decide)) rfl T.g_law_touched T.F_law_touched.kp T.b_law_touched .nil pass0 (pa_cons (pv 2) (pa_cons (pv 3) pa_nil))))
       (pss_cons (ps_set (i := 7) sc_law_one_word.nd rfl (Or.inl rfl) (pe_call G_named (hr.mono (by decide)) rfl T.g_named T.F_named.kp T.b_named .nil passL (pa_cons (pv 1) (pa_cons (pe_tup (pa_cons (pe_ix ix_tup (pv 2) pe_int (fun _ _ => rfl)) (pa_cons (pe_callTy call_tupleL (by rfl) T.n_tuple (by decide +kernel) (pa_cons (pv 3) pa_nil)) pa_nil))) pa_nil))))
       (pss_cons (ps_if (pt_not (pt_val (pe_call G_law_is_code (hr.mono (by decide)) rfl T.g_law_is_code T.F_law_is_code.kp T.b_law_is_code .nil pass0 (pa_cons (pv 7) (pa_cons (pv 6) pa_nil)))))
        (pss_one (ps_ret pe_bl))
        pss_nil)
       (pss_cons (ps_set (i := 8) sc_law_one_word.nd rfl (Or.inl rfl) (pe_call G_law_word (hr.mono (by decide)) rfl T.g_law_word T.F_law_word.kp T.b_law_word .nil pass0 (pa_cons (pv 0) (pa_cons (pv 4) pa_nil))))
       (pss_cons (ps_setLc (i := 9) (own := [("_law_k", 16)]) rfl sc_law_one_word.nd rfl rfl (sw_true rfl rfl rfl (by decide +kernel)) (pi_range1 (by rfl) T.n_range (pa_cons (pv 5) pa_nil)) (blkOk_by (N := ["_law_draws_here", "_law_book", "_law_row", "_law_numbers", "_law_word_here", "_law_registers", "_law_touched_here", "_law_told", "_law_place", "_law_regs", "_law_answers", "_law_one", "_law_q", "_law_turn", "_law_changed", "_law_other", "_law_k"]) (sc := defScope s_law_one_word) (by decide +kernel)) (fun _ _ _ _ _ => by (apply pg_tr; exact pg_name (i := 16) sc_law_one_word.nd rfl (Or.inl rfl); (try dsimp only [Cx.blk]) <;> exact rfl)) (fun _ _ _ _ _ => by (apply pts_tr; exact pts_nil; (try dsimp only [Cx.blk]) <;> exact rfl)) (fun _ _ _ _ _ => by (apply pe_tr; exact (pe_call G_law_word (hr.mono (by decide)) rfl T.g_law_word T.F_law_word.kp T.b_law_word .nil pass0 (pa_cons (pv 0) (pa_cons (pv 4) pa_nil))); (try dsimp only [Cx.blk]) <;> exact rfl)))
       (pss_cons (ps_setLc (i := 10) (own := [("_law_k", 16)]) rfl sc_law_one_word.nd rfl rfl (sw_true rfl rfl rfl (by decide +kernel)) (pi_range1 (by rfl) T.n_range (pa_cons pe_int pa_nil)) (blkOk_by (N := ["_law_draws_here", "_law_book", "_law_row", "_law_numbers", "_law_word_here", "_law_registers", "_law_touched_here", "_law_told", "_law_place", "_law_regs", "_law_answers", "_law_one", "_law_q", "_law_turn", "_law_changed", "_law_other", "_law_k"]) (sc := defScope s_law_one_word) (by decide +kernel)) (fun _ _ _ _ _ => by (apply pg_tr; exact pg_name (i := 16) sc_law_one_word.nd rfl (Or.inl rfl); (try dsimp only [Cx.blk]) <;> exact rfl)) (fun _ _ _ _ _ => by (apply pts_tr; exact pts_nil; (try dsimp only [Cx.blk]) <;> exact rfl)) (fun _ _ _ _ _ => by (apply pe_tr; exact (pe_ix ix_list (pe_lst (pa_cons pe_int (pa_cons pe_int (pa_cons pe_int (pa_cons pe_int (pa_cons pe_non (pa_cons pe_int (pa_cons pe_int pa_nil)))))))) (pe_call G_law_take (hr.mono (by decide)) rfl T.g_law_take T.F_law_take.kp T.b_law_take .nil pass0 (pa_cons (pv 0) (pa_cons pe_int pa_nil))) (fun _ _ => rfl)); (try dsimp only [Cx.blk]) <;> exact rfl)))
       (pss_cons (ps_set (i := 11) sc_law_one_word.nd rfl (Or.inl rfl) (pe_call G_run_code hr rfl T.g_run_code T.F_run_code.kp T.b_run_code .nil passL (pa_cons (pv 1) (pa_cons (pe_tup (pa_cons (pe_ix ix_tup (pv 2) pe_int (fun _ _ => rfl)) (pa_cons (pv 3) pa_nil))) (pa_cons (pv 8) (pa_cons (pv 9) (pa_cons (pv 10) pa_nil)))))))
       (pss_cons (ps_for PassesOwn.never rfl (pi_range1 (by rfl) T.n_range (pa_cons (pv 5) pa_nil)) (pg_name (i := 12) sc_law_one_word.nd rfl (Or.inl rfl))
        (pss_one (ps_if (pt_cmpR op_notIn_seq (pv 12) (pv 6) (by rfl))
        (pss_one (ps_for PassesOwn.never rfl (pi_range1 (by rfl) T.n_range (pa_cons pe_int pa_nil)) (pg_name (i := 13) sc_law_one_word.nd rfl (Or.inl rfl))
        (pss_cons (ps_set (i := 14) sc_law_one_word.nd rfl (Or.inl rfl) (pe_callTy call_listL (by rfl) T.n_list (by decide +kernel) (pa_cons (pv 9) pa_nil)))
       (pss_cons (ps_asg (pe_op op_mod (pe_callTy call_intI (by rfl) T.n_int (by decide +kernel) (pa_cons (pe_op op_add (pe_op op_add (pe_ix ix_list (pv 9) (pv 12) (fun _ _ => rfl)) pe_int) (pe_call G_law_take (hr.mono (by decide)) rfl T.g_law_take T.F_law_take.kp T.b_law_take .nil pass0 (pa_cons (pv 0) (pa_cons (pe_op op_sub (pe_op op_shl pe_int (pv 4)) pe_int) pa_nil)))) pa_nil)) (pe_op op_shl pe_int (pv 4))) (pg_sub (pv 14) (pv 12) set_list))
       (pss_cons (ps_set (i := 15) sc_law_one_word.nd rfl (Or.inl rfl) (pe_call G_run_code hr rfl T.g_run_code T.F_run_code.kp T.b_run_code .nil passL (pa_cons (pv 1) (pa_cons (pe_tup (pa_cons (pe_ix ix_tup (pv 2) pe_int (fun _ _ => rfl)) (pa_cons (pv 3) pa_nil))) (pa_cons (pv 8) (pa_cons (pv 14) (pa_cons (pv 10) pa_nil)))))))
       (pss_one (ps_if (pt_not (pt_val (pe_call G_law_same_run (hr.mono (by decide)) rfl T.g_law_same_run T.F_law_same_run.kp T.b_law_same_run .nil pass0 (pa_cons (pv 11) (pa_cons (pv 15) (pa_cons (pv 12) (pa_cons (pe_ix ix_list (pv 9) (pv 12) (fun _ _ => rfl)) (pa_cons (pe_ix ix_list (pv 14) (pv 12) (fun _ _ => rfl)) pa_nil))))))))
        (pss_one (ps_ret pe_bl))
        pss_nil)))))))
        pss_nil)))
       (pss_one (ps_ret pe_bl)))))))))), ?_⟩
  have sz : sizeLine = 16777216 := sizeLine_eq
  have hfm := List.mem_of_getElem? hfi
  have hfit := fitN_L hfN
  have hP := hK.ps f hfm
  have hL := hK.ls f hfm
  have hreg := touch_reg hL
  have hnl : (ns.map fun (c : Nat) => (c : Int)).length = (lettersM (pls f.ps)).length := by rw [List.length_map]; exact hfN.1
  generalize (ns.map fun (c : Nat) => (c : Int)) = ms at *
  have L5 := lettersM_le (pls f.ps)
  have htc : ∀ c, Rg.l c ∈ touchL f.ls → c ∈ (lettersM (pls f.ps)).map Prod.fst := fun c hc => (hreg _ hc).1
  have n4 := hK.n4
  have n8 := hK.n8
  have r4 := hK.r4
  refine ⟨_, rfl, _, rfl, t, na, f, ms, rfl, hW.rw, hW.na, hnl, hP.l3, fun z hz => by rw [(hP.pat z hz).1]; omega, htc, hL.len, fun H1 l1 ys s1 l10 hl1 hys => ?_⟩
  have W1 := hW.news s1
  obtain ⟨pa, la, us, ht1, hpa1, hla1, hR1⟩ := id W1.rw
  refine ⟨_, rfl, _, rfl, t, _, _, _, rfl, rfl, SqT.of ht1, rfl, _, rfl, ?_⟩
  refine ⟨na, _, rfl, SqL.of W1.na, fun nt nt0 => ⟨by show 2 ≤ _; omega, fun iq iq0 => ?_⟩⟩
  have s2 := same_new (o := .tup (intsV ms)) nt0
  have s3 := same_new (o := .tup [.str f.nm, .ref nt]) iq0
  have hnt := s3 _ _ (upd_same (H := H1) (a := nt) (o := .tup (intsV ms)))
  have hl3 := s3 _ _ (s2 _ _ hl1)
  have W3 := W1.news (s2.trans s3)
  have k3 : Same H _ := s1.trans (s2.trans s3)
  have hiq := upd_same (H := upd H1 nt (.tup (intsV ms))) (a := iq) (o := .tup [.str f.nm, .ref nt])
  generalize upd (upd H1 nt (.tup (intsV ms))) iq (.tup [.str f.nm, .ref nt]) = H3 at W3 hnt hl3 hiq k3 ⊢
  refine ⟨b, .ref iq, rfl, F, n, r, W3.bk, W3.nd, hK, .inr ⟨iq, nt, f, ms, rfl, ⟨W3.bk, W3.nd, ⟨fi, hfi⟩, hiq, .inr hnt, hnl⟩, hfit, ⟨hiq, .inr hnt, hnl, htc, hL.len⟩, fun H4 u zs s4 hu hzs => ?_⟩⟩
  have ez := hzs.uniq hys
  subst ez
  have hl4 := s4 _ _ hl3
  have W4 := W3.news s4
  have zl : zs.length ≤ 12 := by
    obtain ⟨ks, g1, g2, _⟩ := hzs
    obtain ⟨ks', f1, f2, f3⟩ := touchK_keys (lvOf (lettersM (pls f.ps)) ms) (touchL f.ls)
    have : ks = ks' := List.map_inj_right (fun _ _ h => Sum.inl.inj h) |>.mp (g1.symm.trans f1)
    subst this
    have := touchL_len f.ls
    have := hL.len
    rw [g2.length_eq]; omega
  refine ⟨_, rfl, _, rfl, u, l1, zs, rfl, hu, hl4, by omega, _, rfl, iteN (by decide) ?_⟩
  have k04 := k3.trans s4
  clear hl3 W3 k3 hnt hiq W1 hpa1 hla1 hR1 hu
  refine ⟨_, rfl, _, rfl, p, q, n, rfl, W4.dr, hpq, by omega, by omega, fun H5 pl p0 p1 d5 k5 => ?_⟩
  have W5 := W4.kp nap k5 d5
  have l1p : l1 ≠ p := fun z => by obtain ⟨_, _, e, _⟩ := hW.dr; rw [z, e] at l10; cases l10
  have hl5 := k5 _ _ hl4 l1p
  have k05 : KP p H H5 := (KP.of k04).trans k5
  refine ⟨_, rfl, _, rfl, by omega, by omega, fun ra ra0 => ?_⟩
  have rap : ra ≠ p := d5.nlist (xs := []) ra0
  have ral : ra ≠ l1 := fun z => by rw [z, hl5] at ra0; cases ra0
  have ran : ra ≠ na := fun z => by rw [z, W5.na] at ra0; cases ra0
  have drk : ∀ (H' : Hp) (x : Addr) (o : HO), p ≠ x → q ≠ x → Dr H' p q → Dr (upd H' x o) p q := fun H' x o xp xq ⟨ms, j, h1, h2, h3⟩ => ⟨ms, j, by rw [upd_ne xp]; exact h1, by rw [upd_ne xq]; exact h2, h3⟩
  have qra : q ≠ ra := fun z => by obtain ⟨_, _, _, e, _⟩ := d5; rw [z, ra0] at e; cases e
  refine lc_range (lo := 0) (n := ((r : Nat) : Int).toNat) (fun i H6 => Dr H6 p q ∧ (∀ b o, H5 b = some o → b ≠ p → H6 b = some o) ∧ ∃ rs : List Int, H6 ra = some (.lst (intsV rs)) ∧ rs.length = i ∧ ∀ x ∈ rs, 0 ≤ x ∧ x < 2 ^ n) ⟨d5.news (same_new ra0), KP.of (same_new ra0), [], upd_same, rfl, fun x hx => nomatch hx⟩ ?_ ?_
  · rintro i H6 hi ⟨d6, k6, rs, hra6, hrl, hrw⟩
    rw [Int.toNat_natCast] at hi
    refine ⟨rfl, _, rfl, _, rfl, p, q, n, rfl, d6, hpq, by omega, by omega, fun H7 v v0 v1 d7 k7 => ?_⟩
    have hra7 := k7 _ _ hra6 rap
    refine ⟨_, hra7, by rw [intsV_len]; omega, drk _ _ _ rap.symm qra d7, fun b' o e hb => ?_, rs ++ [v], ?_, by rw [List.length_append, List.length_singleton, hrl], fun x hx => ?_⟩
    · have : b' ≠ ra := fun z => by rw [z, ra0] at e; cases e
      rw [upd_ne this]; exact k7 _ _ (k6 _ _ e hb) hb
    · rw [upd_same]; unfold intsV; rw [List.map_append]; rfl
    · rcases List.mem_append.mp hx with h | h
      · exact hrw x h
      · rw [List.mem_singleton.mp h]; exact ⟨v0, v1⟩
  rintro H6 ⟨d6, k6, rs, hra6, hrl, hrw⟩
  rw [Int.toNat_natCast] at hrl
  have W6 := W5.kp nap k6 d6
  have hl6 := k6 _ _ hl5 l1p
  have k06 : KP p H H6 := k05.trans k6
  refine ⟨_, rfl, by decide, by decide, fun aa aa0 => ?_⟩
  have aap : aa ≠ p := d6.nlist (xs := []) aa0
  have qaa : q ≠ aa := fun z => by obtain ⟨_, _, _, e, _⟩ := d6; rw [z, aa0] at e; cases e
  refine lc_range (lo := 0) (n := (8 : Int).toNat) (fun i H7 => Dr H7 p q ∧ (∀ b o, H6 b = some o → b ≠ p → H7 b = some o) ∧ ∃ ans : WS, H7 aa = some (.lst (optsV ans)) ∧ ans.length = i ∧ okAns n ans) ⟨d6.news (same_new aa0), KP.of (same_new aa0), [], upd_same, rfl, fun x hx => nomatch hx⟩ ?_ ?_
  · rintro i H7 hi ⟨d7, k7, ans, haa7, hal, hao⟩
    have hi8 : i < 8 := hi
    refine ⟨rfl, by show 7 ≤ _; omega, fun ob ob0 => ?_⟩
    have so := same_new (o := .lst (optsV [some 3, some 0, some 15, some 1, none, some 9, some 6])) ob0
    have obp := d7.nlist (xs := []) ob0
    refine ⟨_, rfl, p, q, _, rfl, d7.news so, hpq, by decide, fun H8 v v0 v1 d8 k8 => ?_⟩
    have haa8 := k8 _ _ (so _ _ haa7) aap
    obtain ⟨x, hx⟩ := getElem_lt ([some 3, some 0, some 15, some 1, none, some 9, some 6] : WS) (i := v.toNat) (by show v.toNat < 7; omega)
    refine ⟨ob, _, _, _, rfl, rfl, SqL.of (k8 _ _ upd_same obp), atI_int v0 (optsV_at hx), ?_⟩
    refine ⟨_, haa8, by rw [optsV_len]; omega, drk _ _ _ aap.symm qaa d8, fun b' o e hb => ?_, ans ++ [x], ?_, by rw [List.length_append, List.length_singleton, hal], fun y hy => ?_⟩
    · have : b' ≠ aa := fun z => by rw [z, aa0] at e; cases e
      rw [upd_ne this]; exact k8 _ _ (so _ _ (k7 _ _ e hb)) hb
    · rw [upd_same, optsV_snoc]
    · rcases List.mem_append.mp hy with h | h
      · exact hao y h
      · have e16 : 2 ^ 4 ≤ 2 ^ n := Nat.pow_le_pow_right (by decide) n4
        have ec : ((2 ^ n : Nat) : Int) = 2 ^ n := Int.natCast_pow 2 n
        have hm := List.mem_of_getElem? hx
        rw [← List.mem_singleton.mp h] at hm
        simp only [List.mem_cons, List.not_mem_nil, or_false, Option.some.injEq, reduceCtorEq, false_or] at hm
        have e4 : 2 ^ 4 = 16 := by decide
        omega
  rintro H7 ⟨d7, k7, ans, haa7, hal, hao⟩
  have W7 := W6.kp nap k7 d7
  have hl7 := k7 _ _ hl6 l1p
  have hra7 := k7 _ _ hra6 rap
  have k07 : KP p H H7 := k06.trans k7
  obtain ⟨pa7, la7, us7, ht7, _⟩ := id W7.rw
  refine ⟨_, rfl, _, rfl, t, _, _, _, rfl, rfl, SqT.of ht7, rfl, _, rfl, by show 2 ≤ _; omega, fun iq2 iq20 => ?_⟩
  have s8 := same_new (o := .tup [.str f.nm, .ref na]) iq20
  have W8 := W7.news s8
  refine ⟨_, rfl, _, rfl, _, rfl, b, iq2, na, ra, aa, F, n, r, f, ms, rs, pl, ans, rfl, ⟨W8.bk, W8.nd, ⟨fi, hfi⟩, upd_same, .inl W8.na, hnl⟩, hK, hfit, p0, p1, .inl (s8 _ _ hra7), hrl, hrw, .inl (s8 _ _ haa7), hao, by rw [hal]; decide, fun H9 one asks hd hrun s9 hone => ?_⟩
  have W9 := W8.news s9
  have s79 := s8.trans s9
  have hl9 := s79 _ _ hl7
  have hra9 := s79 _ _ hra7
  have haa9 := s79 _ _ haa7
  have k09 : KP p H H9 := k07.trans (KP.of s79)
  clear W8 s8 W7 hl7 hra7 haa7 W6 hl6 hra6 W5 hl5 W4 hl4
  refine ⟨_, rfl, _, rfl, by omega, by omega, ?_⟩
  refine for_range (lo := 0) (n := ((r : Nat) : Int).toNat) (fun j σ H' => Dr H' p q ∧ KP p H9 H' ∧ ∃ v12 v13 v14 v15 : Option V, σ = [some (.ref p), some (.ref b), some (.ref t), some (.ref na), some (.int (n : Nat)), some (.int (r : Nat)), some (.ref l1), some (.ref u), some (.int pl), some (.ref ra), some (.ref aa), some (.ref one), v12, v13, v14, v15, none])
    ⟨W9.dr, KP.of (Same.refl _), none, none, none, none, rfl⟩ ?_ ?_
  · rintro j σ Ha hj ⟨da, ka, v12, v13, v14, v15, rfl⟩
    rw [Int.toNat_natCast] at hj
    have hla := ka _ _ hl9 l1p
    refine ⟨_, rfl, _, rfl, l1, _, rfl, .inl (SqL.of hla), rfl, intsFlat _, _, rfl, ?_⟩
    rw [Int.zero_add, inInts]
    cases hjz : decide ((j : Int) ∈ zs) with
    | true => exact ⟨da, ka, _, _, _, _, rfl⟩
    | false =>
      have hjn := of_decide_eq_false hjz
      refine ⟨_, rfl, by decide, by decide, ?_⟩
      refine for_range (lo := 0) (n := (2 : Int).toNat) (fun m σ H' => Dr H' p q ∧ KP p H9 H' ∧ ∃ v13 v14 v15 : Option V, σ = [some (.ref p), some (.ref b), some (.ref t), some (.ref na), some (.int (n : Nat)), some (.int (r : Nat)), some (.ref l1), some (.ref u), some (.int pl), some (.ref ra), some (.ref aa), some (.ref one), some (.int (j : Int)), v13, v14, v15, none])
        ⟨da, ka, _, _, _, rfl⟩ ?_ ?_
      · rintro m σ Hb hm ⟨db, kb, v13, v14, v15, rfl⟩
        have Wb := W9.kp nap kb db
        have hrab := kb _ _ hra9 rap
        have haab := kb _ _ haa9 aap
        refine ⟨_, rfl, ra, _, rfl, SqL.of hrab, fun ch ch0 => ?_⟩
        have sc := same_new (o := .lst (intsV rs)) ch0
        have chp : ch ≠ p := db.nlist (xs := []) ch0
        have qch : q ≠ ch := fun z => by obtain ⟨_, _, _, e, _⟩ := db; rw [z, ch0] at e; cases e
        obtain ⟨x, hx⟩ := getElem_lt rs (i := j) (by omega)
        have hpn := pow_posK n
        have hnn : (n : Int).toNat = n := Int.toNat_natCast n
        have m0 : (0 : Int) < 1 * 2 ^ (n : Int).toNat - 1 := by
          have e1 : 2 ^ 4 ≤ 2 ^ n := Nat.pow_le_pow_right (by decide) n4
          have e2 : ((2 ^ n : Nat) : Int) = 2 ^ n := Int.natCast_pow 2 n
          rw [hnn]; omega
        refine ⟨_, rfl, _, rfl, ra, _, _, _, rfl, rfl, SqL.of (sc _ _ hrab), atI_nat (intsV_at hx), _, _, rfl, rfl, _, rfl, _, rfl, _, _, rfl, rfl, cpow1 (by omega) (by omega), _, _, rfl, rfl, p, q, _, rfl, db.news sc, hpq, m0, fun Hc y y0 y1 dc kc => ?_⟩
        refine ⟨_, _, rfl, rfl, _, rfl, _, rfl, _, _, rfl, rfl, cpow1 (by omega) (by omega), _, _, rfl, rfl, by omega, ?_⟩
        have hch := kc _ _ (upd_same (H := Hb) (a := ch) (o := .lst (intsV rs))) chp
        have kbc : KP p H9 Hc := kb.trans ((KP.of sc).trans kc)
        have v0 : (0 : Int) ≤ (x + 1 + y) % (1 * 2 ^ (n : Int).toNat) := Int.emod_nonneg _ (by omega)
        have v1 : (x + 1 + y) % (1 * 2 ^ (n : Int).toNat) < 2 ^ n := by
          have := Int.emod_lt_of_pos (x + 1 + y) (b := 1 * 2 ^ (n : Int).toNat) (by omega)
          rw [hnn] at this ⊢; omega
        dsimp only
        generalize (x + 1 + y) % (1 * 2 ^ (n : Int).toNat) = v at v0 v1 ⊢
        refine ⟨_, rfl, _, rfl, ch, _, (j : Int), j, rfl, rfl, hch, ?_, ?_⟩
        · unfold ixN
          rw [intsV_len, if_pos (by omega), if_pos (by omega), Int.toNat_natCast]
        have eset : (intsV rs).set j (.int v) = intsV (rs.set j v) := by unfold intsV; rw [List.map_set]
        have n9 : ∀ b' o, H9 b' = some o → b' ≠ p → b' ≠ ch := fun b' o e hb z => by
          have := kb _ _ e hb
          rw [z, ch0] at this; cases this
        have kd : KP p H9 (upd Hc ch (.lst ((intsV rs).set j (.int v)))) := fun b' o e hb => by rw [upd_ne (n9 b' o e hb)]; exact kbc _ _ e hb
        have dd := drk Hc ch (.lst ((intsV rs).set j (.int v))) chp.symm qch dc
        have hchd : upd Hc ch (.lst ((intsV rs).set j (.int v))) ch = some (.lst (intsV (rs.set j v))) := by rw [upd_same, eset]
        generalize upd Hc ch (.lst ((intsV rs).set j (.int v))) = Hd at kd dd hchd ⊢
        have Wd := W9.kp nap kd dd
        obtain ⟨pad, lad, usd, htd, _⟩ := id Wd.rw
        refine ⟨_, rfl, _, rfl, t, _, _, _, rfl, rfl, SqT.of htd, rfl, _, rfl, by show 2 ≤ _; omega, fun iq3 iq30 => ?_⟩
        have se := same_new (o := .tup [.str f.nm, .ref na]) iq30
        have We := Wd.news se
        have hcl : (rs.set j v).length = r := by rw [List.length_set]; exact hrl
        have hcw : ∀ z ∈ rs.set j v, 0 ≤ z ∧ z < 2 ^ n := fun z hz => by
          rcases List.mem_or_eq_of_mem_set hz with h | h
          · exact hrw z h
          · rw [h]; exact ⟨v0, v1⟩
        refine ⟨_, rfl, _, rfl, _, rfl, b, iq3, na, ch, aa, F, n, r, f, ms, rs.set j v, pl, ans, rfl, ⟨We.bk, We.nd, ⟨fi, hfi⟩, upd_same, .inl We.na, hnl⟩, hK, hfit, p0, p1, .inl (se _ _ hchd), hcl, hcw, .inl (se _ _ (kd _ _ haa9 aap)), hao, by rw [hal]; decide, fun Hf two asks2 hd2 hrun2 sf htwo => ?_⟩
        have sdf := se.trans sf
        have kf : KP p H9 Hf := kd.trans (KP.of sdf)
        have hE : reOf n f ms pl (rs.set j v) = { reOf n f ms pl rs with regs := rs.set j v } := rfl
        have hoff : offQ j (reOf n f ms pl rs).regs (rs.set j v) := ⟨(List.length_set ..).symm, fun m' hm' => (List.getElem?_set_ne (fun z => hm' z.symm)).symm⟩
        have hrO := regOk_of (place := pl) hP hfit hrl r4
        have hno : noQ (lvOf (lettersM (pls f.ps)) ms) j f.ls := noQ_of hys hjn fun a ha => (hrO.1 a (hreg a ha)).1
        obtain ⟨g1, g2, g3, g4, g5, g6⟩ := runL_off (reOf n f ms pl rs) (rs.set j v) j f.ls ans hoff hno x v hx (by rw [List.getElem?_set_self (by omega)]) f.ls [] [] hno
        rw [← hE, hrun, hrun2] at g1 g2
        rw [← hE, hrun2] at g5
        rw [hrun] at g3 g4 g6
        dsimp only at g1 g2 g3 g4 g5 g6
        subst g1
        have hraf := kf _ _ hra9 rap
        have hchf := sdf _ _ hchd
        refine ⟨_, rfl, _, rfl, _, rfl, _, rfl, _, rfl, ra, _, _, _, rfl, rfl, SqL.of hraf, atI_nat (intsV_at hx), _, rfl, _, rfl, ch, _, _, _, rfl, rfl, SqL.of hchf, atI_nat (intsV_at (List.getElem?_set_self (by omega))), ?_⟩
        refine ⟨one, two, asks, hd, hd2, j, x, v, rfl, hone.nl (NL.kp W9.dr kf), htwo, g2, g3, g4, g5, by rw [g6]; show rs.length ≤ _; omega, fun Hg sg' => ⟨_, rfl, iteN (by decide) ?_⟩⟩
        exact ⟨(dd.news sdf).news sg', kf.trans (KP.of sg'), _, _, _, rfl⟩
      · rintro σ Hb ⟨db, kb, v13, v14, v15, rfl⟩
        exact ⟨db, kb, _, _, _, _, rfl⟩
  · rintro σ Ha ⟨da, ka, v12, v13, v14, v15, rfl⟩
    exact k _ da (k09.trans ka)
end
end My

/-! LV -/
namespace My
open PySem L2
local macro_rules | `(tactic| walk_at "side") => `(tactic| first | with_reducible rfl | assumption | rfl | decide | omega | exact cpow1 (by omega) (by omega) | exact cdiv (by omega) (by omega) | exact two_pos _ | exact SqL.of (by assumption) | exact SqT.of (by assumption) | exact TyX.base (TyOf.int _) | exact TyX.base (TyOf.bl _) | exact TyX.base TyOf.non | exact scal_opt _ _ | exact k_ii | exact k_bi | exact k_ni | exact k_ib | exact k_bb | exact TyX.base (TyOf.lst (by assumption)) | exact k_ll | exact k_lt)
local macro_rules | `(tactic| walk_at "p") => `(tactic| repeat (first | refine And.intro (by walk_at "side") ?_ | apply Exists.intro | refine iteN (by assumption) ?_ | refine iteP (by assumption) ?_ | refine iteN (by decide) ?_ | refine iteP (by decide) ?_))

theorem rep1_l (n : Nat) : (repS "1" n).cps.toList = List.replicate n 49 := by
  unfold repS
  show ((List.replicate n (#[49] : Array Nat)).foldl (· ++ ·) #[]).toList = _
  have : ∀ (m : Nat) (acc : Array Nat), ((List.replicate m (#[49] : Array Nat)).foldl (· ++ ·) acc).toList = acc.toList ++ List.replicate m 49 := fun m => by
    induction m with
    | zero => intro acc; simp
    | succ m ih => intro acc; rw [List.replicate_succ, List.foldl_cons, ih]; simp [List.replicate_succ]
  rw [this]; rfl
theorem LnsOk.mono {n r r' : Nat} {L : List Nat} {ls : List Ln} (h : LnsOk n r L ls) (hr : r ≤ r') : LnsOk n r' L ls := by
  have rg : ∀ a, regR r L a → regR r' L a := fun a ha => by
    cases a with
    | l c => exact ha
    | n i => exact Nat.lt_of_lt_of_le ha hr
  refine ⟨h.len, fun i l hl => ?_, h.eff, h.gto⟩
  have := h.ok i l hl
  cases l with
  | get a => exact rg a this
  | put a i => exact ⟨rg a this.1, this.2⟩
  | _ => exact this
/-- the form that no instruction names -/
def otherF (n : Nat) : FM := ⟨"other", [repS "1" n], [.get (.n 1)]⟩
theorem otherP {n r : Nat} (n4 : 4 ≤ n) (r2 : 2 ≤ r) : PatsOk n r (otherF n).ps := by
  have e : ∀ z ∈ (otherF n).ps, z.cps.toList = List.replicate n 49 := fun z hz => by rw [List.mem_singleton.mp hz, rep1_l]
  refine patsOk_of (e := 0) (by show 1 ≤ 1; omega) (by show 1 ≤ 3; omega) (fun z hz => ⟨?_, fun c hc => ?_⟩) (by omega) (by omega) fun c hc => ?_
  · have := congrArg List.length (e z hz)
    rw [List.length_replicate] at this
    exact this
  · rw [e z hz] at hc
    rw [List.eq_of_mem_replicate hc]; rfl
  · have : (pls (otherF n).ps).flatten = List.replicate n 49 := by unfold pls otherF; simp [rep1_l]
    rw [this, List.count_replicate, if_neg (fun z => by rw [← eq_of_beq z] at hc; exact absurd hc (by decide))]
    exact Nat.zero_le _
theorem otherL {n r : Nat} (L : List Nat) (r2 : 2 ≤ r) : LnsOk n r L (otherF n).ls := by
  refine ⟨by show 1 ≤ 12; omega, fun i l hl => ?_, by show 0 ≤ 1; omega, by show 0 ≤ 1; omega⟩
  cases i with
  | zero => cases hl; show 1 < r; omega
  | succ i => cases i <;> cases hl
theorem nmO : nameOk "other" := ⟨by decide +kernel, by decide +kernel, by decide +kernel⟩
theorem nm1 : nameOk "one" := ⟨by decide +kernel, by decide +kernel, by decide +kernel⟩
theorem book18 {n r : Nat} {ps : List Str} {ls : List Ln} (n4 : 4 ≤ n) (n8 : n ≤ 8) (r2 : 2 ≤ r) (r4 : r ≤ 4) (hp : PatsOk n r ps) (hl : LnsOk n r ((lettersM (pls ps)).map Prod.fst) ls) : BookOk n r [otherF n, ⟨"one", ps, ls⟩] := by
  refine ⟨n4, n8, by omega, r4, by show 1 ≤ 2; omega, by show 2 ≤ 32; omega, ?_, fun f hf => ?_, fun f hf => ?_, fun f hf => ?_⟩
  · show (["other", "one"] : List Str).Nodup
    decide +kernel
  · rcases List.mem_cons.mp hf with rfl | hf
    · exact nmO
    · rw [List.mem_singleton.mp hf]; exact nm1
  · rcases List.mem_cons.mp hf with rfl | hf
    · exact otherP n4 r2
    · rw [List.mem_singleton.mp hf]; exact hp
  · rcases List.mem_cons.mp hf with rfl | hf
    · exact otherL _ r2
    · rw [List.mem_singleton.mp hf]; exact hl
section
variable {P : Program} {w : World} {K : PySem.W.Frag} {mg : Str → Option Value} {base : Heap}
def sp_law (_ : Txt w K mg) : Sp := fun vs H Q _ => ∃ (a : Addr) (xs : List Int), vs = [.ref a] ∧ SqL K H a (xs.map V.int) ∧ xs.length ≤ 63 ∧ ∀ H', Q (.bl true) H'
theorem sp_law_len {T : Txt w K mg} {vs H Q E} (h : sp_law T vs H Q E) : vs.length = 1 := by obtain ⟨_, _, rfl, _⟩ := h; rfl
theorem ok_law (T : Txt w K mg) : FnOk P w K mg base CX0 9 T.f_law T.fd_law ["_law_script"] (sp_law T) := by
  have G_Book_init := ok_Book_init (P := P) (w := w) (base := base) T; have G_law_draws := ok_law_draws (P := P) (w := w) (base := base) T; have G_law_lines := ok_law_lines (P := P) (w := w) (base := base) T; have G_law_numbers_drawn := ok_law_numbers_drawn (P := P) (w := w) (base := base) T; have G_law_one_word := ok_law_one_word (P := P) (w := w) (base := base) T; have G_law_patterns := ok_law_patterns (P := P) (w := w) (base := base) T; have G_law_refused := ok_law_refused (P := P) (w := w) (base := base) T; have G_law_take := ok_law_take (P := P) (w := w) (base := base) T
  refine T.F_law.ok sc_law (fun vs H Q E h => sp_law_len h) (fun cdv A outer s H vs Q E hr h => ?_)
  obtain ⟨a, xs, rfl, hx, h63, k⟩ := h
  refine ⟨_, (pss_cons (ps_set (i := 1) sc_law.nd rfl (Or.inl rfl) (pe_call G_law_draws (hr.mono (by decide)) rfl T.g_law_draws T.F_law_draws.kp T.b_law_draws .nil pass0 (pa_cons (pv 0) pa_nil)))
       (pss_cons (ps_set (i := 2) sc_law.nd rfl (Or.inl rfl) (pe_ix ix_list (pe_lst (pa_cons pe_int (pa_cons pe_int (pa_cons pe_int pa_nil)))) (pe_call G_law_take (hr.mono (by decide)) rfl T.g_law_take T.F_law_take.kp T.b_law_take .nil pass0 (pa_cons (pv 1) (pa_cons pe_int pa_nil))) (fun _ _ => rfl)))
       (pss_cons (ps_set (i := 3) sc_law.nd rfl (Or.inl rfl) (pe_ix ix_list (pe_lst (pa_cons pe_int (pa_cons pe_int (pa_cons pe_int pa_nil)))) (pe_call G_law_take (hr.mono (by decide)) rfl T.g_law_take T.F_law_take.kp T.b_law_take .nil pass0 (pa_cons (pv 1) (pa_cons pe_int pa_nil))) (fun _ _ => rfl)))
       (pss_cons (ps_set (i := 4) sc_law.nd rfl (Or.inl rfl) (pe_call G_law_patterns (hr.mono (by decide)) rfl T.g_law_patterns T.F_law_patterns.kp T.b_law_patterns .nil pass0 (pa_cons (pv 1) (pa_cons (pv 2) (pa_cons (pv 3) (pa_cons (pe_op op_add pe_int (pe_call G_law_take (hr.mono (by decide)) rfl T.g_law_take T.F_law_take.kp T.b_law_take .nil pass0 (pa_cons (pv 1) (pa_cons pe_int pa_nil)))) pa_nil))))))
       (pss_cons (ps_set (i := 5) sc_law.nd rfl (Or.inl rfl) (pe_op op_add pe_int (pe_call G_law_take (hr.mono (by decide)) rfl T.g_law_take T.F_law_take.kp T.b_law_take .nil pass0 (pa_cons (pv 1) (pa_cons (pv 3) pa_nil)))))
       (pss_cons (ps_set (i := 6) sc_law.nd rfl (Or.inl rfl) (pe_call G_law_lines (hr.mono (by decide)) rfl T.g_law_lines T.F_law_lines.kp T.b_law_lines .nil pass0 (pa_cons (pv 1) (pa_cons (pv 4) (pa_cons (pv 5) (pa_cons (pv 2) (pa_cons (pe_ix ix_list (pe_lst (pa_cons pe_int (pa_cons pe_int (pa_cons pe_int (pa_cons pe_int (pa_cons pe_int pa_nil)))))) (pe_call G_law_take (hr.mono (by decide)) rfl T.g_law_take T.F_law_take.kp T.b_law_take .nil pass0 (pa_cons (pv 1) (pa_cons pe_int pa_nil))) (fun _ _ => rfl)) (pa_cons pe_int pa_nil))))))))
       (pss_cons (ps_set (i := 7) sc_law.nd rfl (Or.inl rfl) (pe_tup (pa_cons pe_str (pa_cons (pv 4) (pa_cons (pv 6) pa_nil)))))
       (pss_cons (ps_set (i := 8) sc_law.nd rfl (Or.inl rfl) (pe_make T.M_Book G_Book_init (hr.mono (by decide)) rfl T.g_Book T.b_Book_init .nil pass0 (pa_cons (pv 2) (pa_cons (pv 3) (pa_cons (pe_lst (pa_cons (pe_tup (pa_cons pe_str (pa_cons (pe_lst (pa_cons (pe_op op_rep_str pe_str (pv 2)) pa_nil)) (pa_cons (pe_lst (pa_cons (pe_tup (pa_cons pe_str (pa_cons pe_int pa_nil))) pa_nil)) pa_nil)))) (pa_cons (pv 7) pa_nil))) pa_nil)))))
       (pss_cons (ps_for PassesOwn.never rfl (pi_range1 (by rfl) T.n_range (pa_cons pe_int pa_nil)) (pg_name (i := 9) sc_law.nd rfl (Or.inl rfl))
        (pss_cons (ps_set (i := 10) sc_law.nd rfl (Or.inl rfl) (pe_call G_law_numbers_drawn (hr.mono (by decide)) rfl T.g_law_numbers_drawn T.F_law_numbers_drawn.kp T.b_law_numbers_drawn .nil pass0 (pa_cons (pv 1) (pa_cons (pv 4) pa_nil))))
       (pss_one (ps_if (pt_not (pt_val (pe_call G_law_one_word hr rfl T.g_law_one_word T.F_law_one_word.kp T.b_law_one_word .nil pass0 (pa_cons (pv 1) (pa_cons (pv 8) (pa_cons (pv 7) (pa_cons (pv 10) (pa_cons (pv 2) (pa_cons (pv 3) pa_nil)))))))))
        (pss_one (ps_ret pe_bl))
        pss_nil))))
       (pss_cons (ps_set (i := 10) sc_law.nd rfl (Or.inl rfl) (pe_call G_law_numbers_drawn (hr.mono (by decide)) rfl T.g_law_numbers_drawn T.F_law_numbers_drawn.kp T.b_law_numbers_drawn .nil pass0 (pa_cons (pv 1) (pa_cons (pv 4) pa_nil))))
       (pss_cons (ps_for PassesOwn.never rfl (pi_list (pe_lst (pa_cons (pe_tup (pa_cons pe_str (pa_cons (pe_op op_cat (pv 10) (pe_lst (pa_cons pe_int pa_nil))) pa_nil))) (pa_cons (pe_tup (pa_cons pe_str (pa_cons (pv 10) pa_nil))) (pa_cons pe_non (pa_cons (pe_tup (pa_cons pe_str pa_nil)) (pa_cons (pe_tup (pa_cons pe_str (pa_cons pe_non pa_nil))) pa_nil))))))) (pg_name (i := 11) sc_law.nd rfl (Or.inl rfl))
        (pss_one (ps_if (pt_not (pt_val (pe_call G_law_refused (hr.mono (by decide)) rfl T.g_law_refused T.F_law_refused.kp T.b_law_refused .nil pass0 (pa_cons (pv 8) (pa_cons (pv 11) pa_nil)))))
        (pss_one (ps_ret pe_bl))
        pss_nil)))
       (pss_one (ps_ret pe_bl))))))))))))), ?_⟩
  have sz : sizeLine = 16777216 := sizeLine_eq
  refine ⟨_, rfl, a, xs, rfl, hx, h63, fun H1 p q s1 p0 q0 hpq d1 => ?_⟩
  have three : ∀ (x y z : Int) (v : Int), 0 ≤ v → v < 3 → ∃ e, atI ([.int x, .int y, .int z] : List V) v = some (.int e) ∧ (e = x ∨ e = y ∨ e = z) := fun x y z v v0 v1 => by
    have : v = 0 ∨ v = 1 ∨ v = 2 := by omega
    rcases this with rfl | rfl | rfl
    · exact ⟨x, rfl, .inl rfl⟩
    · exact ⟨y, rfl, .inr (.inl rfl)⟩
    · exact ⟨z, rfl, .inr (.inr rfl)⟩
  refine ⟨by show 3 ≤ _; omega, fun l1 l10 => ?_⟩
  refine ⟨_, rfl, p, q, _, rfl, d1.news (same_new l10), hpq, by decide, fun H2 v v0 v1 d2 k2 => ?_⟩
  obtain ⟨n', hn, hn3⟩ := three 4 5 6 v v0 v1
  refine ⟨l1, _, v, _, rfl, rfl, SqL.of (k2 _ _ upd_same (d1.nlist (xs := []) l10)), hn, ?_⟩
  refine ⟨by show 3 ≤ _; omega, fun l2 l20 => ?_⟩
  refine ⟨_, rfl, p, q, _, rfl, d2.news (same_new l20), hpq, by decide, fun H3 u u0 u1 d3 k3 => ?_⟩
  obtain ⟨r', hr2, hr3⟩ := three 4 3 2 u u0 u1
  refine ⟨l2, _, u, _, rfl, rfl, SqL.of (k3 _ _ upd_same (d2.nlist (xs := []) l20)), hr2, ?_⟩
  obtain ⟨n, rfl⟩ : ∃ n : Nat, n' = (n : Nat) := ⟨n'.toNat, by omega⟩
  obtain ⟨r, rfl⟩ : ∃ r : Nat, r' = (r : Nat) := ⟨r'.toNat, by omega⟩
  have n4 : 4 ≤ n := by omega
  have n8 : n ≤ 8 := by omega
  have rr : r = 1 ∨ r = 2 ∨ r = 3 ∨ r = 4 := by omega
  have r2 : 2 ≤ r := by omega
  have r4 : r ≤ 4 := by omega
  refine ⟨_, rfl, _, rfl, _, rfl, _, rfl, p, q, _, rfl, d3, hpq, by decide, fun H4 m m0 m1 d4 k4 => ⟨_, _, rfl, rfl, ?_⟩⟩
  refine ⟨p, q, n, r, (1 + m).toNat, ?_, d4, hpq, n4, n8, rr, by omega, by omega, fun H5 lp ps d5 k5 lp0 hlp hPs => ?_⟩
  · rw [Int.toNat_of_nonneg (by omega)]; rfl
  have lpp : lp ≠ p := d4.nlist (xs := []) lp0
  refine ⟨_, rfl, _, rfl, p, q, _, rfl, d5, hpq, by omega, fun H6 e e0 e1 d6 k6 => ⟨_, _, rfl, rfl, ?_⟩⟩
  have five : ∀ (v : Int), 0 ≤ v → v < 5 → ∃ e : Nat, atI ([.int 4, .int 6, .int 2, .int 8, .int 0] : List V) v = some (.int (e : Nat)) ∧ e ≤ 8 := fun v v0 v1 => by
    have : v = 0 ∨ v = 1 ∨ v = 2 ∨ v = 3 ∨ v = 4 := by omega
    rcases this with rfl | rfl | rfl | rfl | rfl
    · exact ⟨4, rfl, by decide⟩
    · exact ⟨6, rfl, by decide⟩
    · exact ⟨2, rfl, by decide⟩
    · exact ⟨8, rfl, by decide⟩
    · exact ⟨0, rfl, by decide⟩
  refine ⟨_, rfl, _, rfl, _, rfl, _, rfl, by show 5 ≤ _; omega, fun l3 l30 => ?_⟩
  refine ⟨_, rfl, p, q, _, rfl, d6.news (same_new l30), hpq, by decide, fun H7 x x0 x1 d7 k7 => ?_⟩
  obtain ⟨mm, hm, hm8⟩ := five x x0 x1
  refine ⟨l3, _, x, _, rfl, rfl, SqL.of (k7 _ _ upd_same (d6.nlist (xs := []) l30)), hm, ?_⟩
  have hlp7 := k7 _ _ (same_new l30 _ _ (k6 _ _ hlp lpp)) lpp
  refine ⟨p, q, lp, ps, (1 + e).toNat, n, mm, 8, ?_, d7, hpq, hlp7, lpp, hPs.l3, fun z hz => by rw [(hPs.pat z hz).1]; omega, by omega, by omega, by omega, by omega, by omega, fun H8 ll us ls d8 k8 ll0 hll hR8 hLs hlen => ?_⟩
  · rw [Int.toNat_of_nonneg (by omega)]; rfl
  have hLs := hLs.mono (r' := r) (by omega)
  have hB := book18 n4 n8 r2 r4 hPs hLs
  have hlp8 := k8 _ _ hlp7 lpp
  refine ⟨_, rfl, _, rfl, by show 3 ≤ _; omega, fun tr tr0 => ?_⟩
  have s9 := same_new (o := .tup [.str "one", .ref lp, .ref ll]) tr0
  have hrow9 : RowP (upd H8 tr (.tup [.str "one", .ref lp, .ref ll])) tr ⟨"one", ps, ls⟩ := ⟨lp, ll, us, upd_same, s9 _ _ hlp8, s9 _ _ hll, hR8.map fun u l _ h => s9 _ _ h⟩
  have hlp9 := s9 _ _ hlp8
  have d9 := d8.news s9
  generalize upd H8 tr (.tup [.str "one", .ref lp, .ref ll]) = H9 at hrow9 hlp9 d9 ⊢
  refine ⟨_, rfl, _, rfl, _, rfl, _, _, rfl, rfl, by omega, by omega, by decide, ?_⟩
  refine ⟨by show 1 ≤ _; omega, fun a1 a10 => ⟨by show 2 ≤ _; omega, fun g1 g10 => ⟨by show 1 ≤ _; omega, fun b1 b10 => ⟨by show 3 ≤ _; omega, fun t1 t10 => ⟨_, rfl, by show 2 ≤ _; omega, fun lr lr0 => ?_⟩⟩⟩⟩⟩
  have sa := same_new (o := .lst [.str (repS "1" ((n : Nat) : Int).toNat)]) a10
  have sg1 := same_new (o := .tup [.str "get", .int 1]) g10
  have sb1 := same_new (o := .lst [.ref g1]) b10
  have st1 := same_new (o := .tup [.str "other", .ref a1, .ref b1]) t10
  have sl1 := same_new (o := .lst [.ref t1, .ref tr]) lr0
  have S : Same H9 _ := sa.trans (sg1.trans (sb1.trans (st1.trans sl1)))
  have ha1 := sl1 _ _ (st1 _ _ (sb1 _ _ (sg1 _ _ (upd_same (H := H9) (a := a1) (o := .lst [.str (repS "1" ((n : Nat) : Int).toNat)])))))
  have hg1 := sl1 _ _ (st1 _ _ (sb1 _ _ (upd_same (a := g1) (o := .tup [.str "get", .int 1]))))
  have hb1 := sl1 _ _ (st1 _ _ (upd_same (a := b1) (o := .lst [.ref g1])))
  have ht1 := sl1 _ _ (upd_same (a := t1) (o := .tup [.str "other", .ref a1, .ref b1]))
  have hlr := upd_same (H := upd (upd (upd (upd H9 a1 (.lst [.str (repS "1" ((n : Nat) : Int).toNat)])) g1 (.tup [.str "get", .int 1])) b1 (.lst [.ref g1])) t1 (.tup [.str "other", .ref a1, .ref b1])) (a := lr) (o := .lst [.ref t1, .ref tr])
  generalize upd (upd (upd (upd (upd H9 a1 _) g1 _) b1 _) t1 _) lr (.lst [.ref t1, .ref tr]) = H10 at S ha1 hg1 hb1 ht1 hlr ⊢
  have hrow10 := hrow9.news S
  have hlp10 := S _ _ hlp9
  have d10 := d9.news S
  have hoth : RowP H10 t1 (otherF n) := ⟨a1, b1, [.ref g1], ht1, ha1, hb1, Refs.snoc Refs.nil hg1⟩
  refine fun pb db pb0 db0 pne => ?_
  have sb : Same H10 (upd (upd H10 db (.own pb)) pb (.ins T.C_Book db [])) := (same_new db0).trans (same_new (by rw [upd_ne (Ne.symm pne)]; exact pb0))
  refine ⟨pb, db, lr, [.ref t1, .ref tr], [otherF n, ⟨"one", ps, ls⟩], n, r, rfl, upd_same, sb _ _ hlr, (Refs.snoc (Refs.snoc Refs.nil (hoth.news sb)) (hrow10.news sb)), hB, fun H11 k11 hBk hNm => ⟨rfl, ?_⟩⟩
  have s11 : Same H10 H11 := fun b' o e => k11 _ _ (sb _ _ e) fun z => by rw [z, pb0] at e; cases e
  have d11 := d10.news s11
  have hrow11 := hrow10.news s11
  have hlp11 := s11 _ _ hlp10
  refine ⟨_, rfl, by decide, by decide, ?_⟩
  refine for_range (lo := 0) (n := (2 : Int).toNat) (fun i σ H' => Dr H' p q ∧ BookAt T.C_Book T.C_Form H' pb n r [otherF n, ⟨"one", ps, ls⟩] ∧ NamedAt T.C_Book H' pb [otherF n, ⟨"one", ps, ls⟩] ∧ RowP H' tr ⟨"one", ps, ls⟩ ∧ H' lp = some (.lst (ps.map V.str)) ∧ ∃ v9 v10 : Option V, σ = [some (.ref a), some (.ref p), some (.int (n : Nat)), some (.int (r : Nat)), some (.ref lp), some (.int (1 + e)), some (.ref ll), some (.ref tr), some (.ref pb), v9, v10, none])
    ⟨d11, hBk, hNm, hrow11, hlp11, none, none, rfl⟩ ?_ ?_
  · rintro i σ Ha hi ⟨da, ba, na, ra, lpa, v9, v10, rfl⟩
    refine ⟨_, rfl, _, rfl, p, q, lp, ps, n, rfl, da, hpq, lpa, lpp, hPs.l3, n8, fun z hz => (hPs.pat z hz).1, fun Hb ln ns db' kb ln0 hln hfN => ?_⟩
    have lnp : ln ≠ p := da.nlist (xs := []) ln0
    refine ⟨_, rfl, _, rfl, _, rfl, _, rfl, _, rfl, _, rfl, p, q, pb, tr, ln, [otherF n, ⟨"one", ps, ls⟩], ⟨"one", ps, ls⟩, ns, n, r, rfl, ⟨db', ba.nl (NL.kp da kb), na.nl (NL.kp da kb), ra.kp da kb, by rw [← natsV_ints]; exact hln⟩, hpq, lnp, hB, ⟨1, rfl⟩, hfN, fun Hc dc kc => ⟨_, rfl, iteN (by decide) ?_⟩⟩
    have kac := kb.trans kc
    exact ⟨dc, ba.nl (NL.kp da kac), na.nl (NL.kp da kac), ra.kp da kac, kac _ _ lpa lpp, _, _, rfl⟩
  rintro σ Ha ⟨da, ba, na, ra, lpa, v9, v10, rfl⟩
  refine ⟨_, rfl, _, rfl, p, q, lp, ps, n, rfl, da, hpq, lpa, lpp, hPs.l3, n8, fun z hz => (hPs.pat z hz).1, fun Hb ln ns db' kb ln0 hln hfN => ?_⟩
  have bb := ba.nl (NL.kp da kb)
  have nb := na.nl (NL.kp da kb)
  clear ba na ra lpa
  refine ⟨_, rfl, by show 1 ≤ _; omega, fun z1 z10 => ?_⟩
  have e1 := same_new (o := .lst [.int 0]) z10
  have L5 := lettersM_le (pls ps)
  have nl := hfN.1
  refine ⟨ln, z1, natsV ns, [.int 0], rfl, rfl, e1 _ _ hln, upd_same, by rw [natsV_len]; show ns.length + 1 ≤ _; omega, fun c1 c10 => ?_⟩
  have e2 := same_new (o := .lst (natsV ns ++ [.int 0])) c10
  refine ⟨by show 2 ≤ _; omega, fun q1 q10 => ⟨_, rfl, by show 2 ≤ _; omega, fun q2 q20 => ⟨by show 1 ≤ _; omega, fun q3 q30 => ⟨by show 2 ≤ _; omega, fun q4 q40 => ⟨by show 5 ≤ _; omega, fun L L0 => ?_⟩⟩⟩⟩⟩
  have f1 := same_new (o := .tup [.str "one", .ref c1]) q10
  have f2 := same_new (o := .tup [.str "two", .ref ln]) q20
  have f3 := same_new (o := .tup [.str "one"]) q30
  have f4 := same_new (o := .tup [.str "one", .non]) q40
  have f5 := same_new (o := .lst [.ref q1, .ref q2, .non, .ref q3, .ref q4]) L0
  have S := (e1.trans e2).trans (f1.trans (f2.trans (f3.trans (f4.trans f5))))
  have hc1 := f5 _ _ (f4 _ _ (f3 _ _ (f2 _ _ (f1 _ _ (upd_same (a := c1) (o := .lst (natsV ns ++ [.int 0])))))))
  have hq1 := f5 _ _ (f4 _ _ (f3 _ _ (f2 _ _ (upd_same (a := q1) (o := .tup [.str "one", .ref c1])))))
  have hq2 := f5 _ _ (f4 _ _ (f3 _ _ (upd_same (a := q2) (o := .tup [.str "two", .ref ln]))))
  have hq3 := f5 _ _ (f4 _ _ (upd_same (a := q3) (o := .tup [.str "one"])))
  have hq4 := f5 _ _ (upd_same (a := q4) (o := .tup [.str "one", .non]))
  have hL := upd_same (H := upd (upd (upd (upd (upd (upd Hb z1 (.lst [.int 0])) c1 (.lst (natsV ns ++ [.int 0]))) q1 (.tup [.str "one", .ref c1])) q2 (.tup [.str "two", .ref ln])) q3 (.tup [.str "one"])) q4 (.tup [.str "one", .non])) (a := L) (o := .lst [.ref q1, .ref q2, .non, .ref q3, .ref q4])
  generalize upd (upd (upd (upd (upd (upd (upd Hb z1 _) c1 _) q1 _) q2 _) q3 _) q4 _) L (.lst [.ref q1, .ref q2, .non, .ref q3, .ref q4]) = HL at S hc1 hq1 hq2 hq3 hq4 hL ⊢
  have hlnL := S _ _ hln
  have bL := bb.news S
  have nL := nb.news S
  clear bb nb e2 f1 f2 f3 f4 f5 c10 q10 q20 q30 q40 L0 S
  have npl : ∀ y ∈ natsV ns, plain4 y = true := fun y hy => by obtain ⟨z, _, rfl⟩ := List.mem_map.mp hy; rfl
  have no1 : (Str.ofString "one") ≠ "other" := by decide +kernel
  have no2 : (Str.ofString "two") ≠ "other" := by decide +kernel
  have no3 : (Str.ofString "two") ≠ "one" := by decide +kernel
  have bad : ∀ H', Same HL H' → ∀ (i : Nat) (x : V), ([.ref q1, .ref q2, .non, .ref q3, .ref q4] : List V)[i]? = some x → BadIns T H' x [otherF n, ⟨"one", ps, ls⟩] := fun H' s i x hx => by
    match i, hx with
    | 0, hx =>
      cases hx
      refine .inr (.inr (.inr ⟨q1, c1, .str "one", natsV ns ++ [.int 0], rfl, .inr (s _ _ hq1), .inl (s _ _ hc1), rfl, fun y hy => ?_, by rw [List.length_append, natsV_len]; show ns.length + 1 ≤ _; omega, fun f hf e => ?_⟩))
      · rcases List.mem_append.mp hy with h | h
        · exact npl y h
        · rw [List.mem_singleton.mp h]; rfl
      · rcases List.mem_cons.mp hf with rfl | hf
        · exact absurd (V.str.inj e) no1
        · rw [List.mem_singleton.mp hf]
          refine Bool.eq_false_iff.mpr fun z => ?_
          have : (lettersM (pls ps)).length = (natsV ns ++ [V.int 0]).length := (fit_all.mp z).1
          rw [List.length_append, natsV_len, List.length_singleton] at this
          omega
    | 1, hx =>
      cases hx
      refine .inr (.inr (.inr ⟨q2, ln, .str "two", natsV ns, rfl, .inr (s _ _ hq2), .inl (s _ _ hlnL), rfl, npl, by rw [natsV_len]; omega, fun f hf e => ?_⟩))
      rcases List.mem_cons.mp hf with rfl | hf
      · exact absurd (V.str.inj e) no2
      · rw [List.mem_singleton.mp hf] at e
        exact absurd (V.str.inj e) no3
    | 2, hx => cases hx; exact .inl rfl
    | 3, hx => cases hx; exact .inr (.inl ⟨q3, [.str "one"], rfl, .inr (s _ _ hq3), by decide, by decide⟩)
    | 4, hx => cases hx; exact .inr (.inr (.inl ⟨q4, .str "one", .non, rfl, .inr (s _ _ hq4), rfl⟩))
    | i + 5, hx => simp at hx
  refine ⟨L, rfl, ⟨_, SqL.of hL⟩, ?_⟩
  refine for_it (walk_list (xs := [.ref q1, .ref q2, .non, .ref q3, .ref q4])) (fun i σ H' => Same HL H' ∧ ∃ v11 : Option V, σ = [some (.ref a), some (.ref p), some (.int (n : Nat)), some (.int (r : Nat)), some (.ref lp), some (.int (1 + e)), some (.ref ll), some (.ref tr), some (.ref pb), v9, some (.ref ln), v11]) ⟨Same.refl _, none, rfl⟩ (fun i σ H' _ ⟨s, _⟩ => SqL.of (s _ _ hL)) ?_ ?_
  · rintro i x σ Hc Hd hi ⟨s, v11, rfl⟩ ⟨rfl, hx⟩
    refine ⟨_, rfl, _, rfl, pb, x, [otherF n, ⟨"one", ps, ls⟩], n, r, rfl, bL.news s, nL.news s, hB, bad _ s i x hx, fun He se => ⟨_, rfl, iteN (by decide) ?_⟩⟩
    exact ⟨s.trans se, _, rfl⟩
  · rintro σ Hc ⟨s, v11, rfl⟩
    exact k _
end
end My

namespace My
open PySem L2
/-- an error of the class at S is what «except S» names -/
theorem exm_own {K : PySem.W.Frag} {S : Addr} (h1 : PySem.W.subIn K (.ref S) (.type "BaseException") = some true) (h2 : PySem.W.isClsIn K S = true) (h3 : PySem.W.typeIn K (.ref S) = some (.type "type")) (h4 : PySem.W.subIn K (.ref S) (.ref S) = some true) :
    PySem.W.exmOne K (.ref S) (.ref S) = some true := by
  have e1 : (PySem.W.subIn K (.ref S) (.type "BaseException") == some true) = true := by rw [h1] <;> rfl
  have e2 : ((PySem.W.clsIn K S).isSome && PySem.W.typeIn K (.ref S) == some (.type "type")) = true := by
    have h2' : (PySem.W.clsIn K S).isSome = true := h2
    rw [h2', h3] <;> rfl
  show (if (PySem.W.subIn K (.ref S) (.type "BaseException") == some true) = true then (if ((PySem.W.clsIn K S).isSome && PySem.W.typeIn K (.ref S) == some (.type "type")) = true then PySem.W.subIn K (.ref S) (.ref S) else none) else none) = some true
  rw [if_pos e1, if_pos e2]
  exact h4
theorem kit_of {K : PySem.W.Frag} {x c : Addr} {b : Bool} (h1 : PySem.W.isClsIn K c = true) (h2 : PySem.W.typeIn K (.ref c) = some (.type "type")) (h3 : PySem.W.subIn K (.ref x) (.ref c) = some b) (h4 : PySem.W.subIn K (.ref x) (.ref x) = some true) : PySem.W.kitOne K (.ref x) (.ref c) = some b := by
  unfold PySem.W.kitOne
  by_cases e : ((Value.ref x) == (Value.ref c)) = true
  · rw [if_pos e]
    have : x = c := Value.ref.inj (beq_iff_eq.mp e)
    subst this
    rw [h4] at h3
    exact h3
  · rw [if_neg e]
    have e2 : ((PySem.W.clsIn K c).isSome && PySem.W.typeIn K (.ref c) == some (.type "type")) = true := by
      have h1' : (PySem.W.clsIn K c).isSome = true := h1
      rw [h1', h2] <;> rfl
    show (if ((PySem.W.clsIn K c).isSome && PySem.W.typeIn K (.ref c) == some (.type "type")) = true then PySem.W.subIn K (.ref x) (.ref c) else none) = some b
    rw [if_pos e2]
    exact h3
theorem oexE_of {K : PySem.W.Frag} {C : Addr} (q : PySem.W.excInitIn K C exB "Exception.__new__" = true) (hd : PySem.W.hasDictIn K C = true) (sa : PySem.W.findIn K (.ref C) "__setattr__" = some (some (.builtin "object.__setattr__"))) (ex : PySem.W.subIn K (.ref C) (.type "BaseException") = some true)
    (ty : PySem.W.typeIn K (.ref C) = some (.type "type")) (kp : PySem.W.keepIn K (.ref C) = true) : OexE K C := by
  refine ⟨?_, sa, ex, ty, kp⟩
  unfold PySem.W.excInitIn at q
  split at q
  · rename_i dd cd sl ho
    split at q
    · rename_i C' bm k0 k1 k2 k3 n k5 hm hs
      simp only [Bool.and_eq_true, beq_iff_eq, Bool.not_eq_true'] at q
      obtain ⟨⟨⟨rfl, rfl⟩, hdel⟩, ht⟩ := q
      have hD : cd.hasDict = true := by
        unfold PySem.W.hasDictIn PySem.W.clsIn at hd
        rw [ho] at hd
        exact hd
      obtain ⟨nm, bs, mro, ns, qn, hd', sn, sub, ab, col, del⟩ := cd
      dsimp only at hm hdel hD
      subst hm hdel hD
      have hsl : sl = #[k0, k1, k2, k3, some (.builtin "Exception.__new__"), k5] := by
        obtain ⟨l⟩ := sl
        simp only at hs
        rw [hs]
      subst hsl
      exact ⟨nm, qn, ns, bs, bm, sn, sub, ab, col, dd, k0, k1, k2, k3, k5, ho, ht⟩
    · cases q
  · cases q
theorem tup_kit {K : PySem.W.Frag} {a n : Nat} {od : Option Addr} {sl : Array (Option Value)} {its : Array Value} {xs : List V} (lk : K.lookup a = some ⟨.type "tuple", od, .seq its n, sl⟩) (z : its.size ≤ sizeLine) (v : Vals xs its.toList) : ∀ H, SqT K H a xs :=
  fun H => .inr ⟨_, its, n, lk, rfl, rfl, z, v⟩
inductive KRel : List DictEntry → List (Str × V) → Prop
  | nil : KRel [] []
  | cons {e : DictEntry} {r : List DictEntry} {z : Str} {t : Tok} {v : V} {kvs : List (Str × V)} (h : e.key = .str z t) (u : RelV v e.val) (k : KRel r kvs) : KRel (e :: r) ((z, v) :: kvs)
theorem KRel.find {z : Str} : ∀ {es : List DictEntry} {kvs : List (Str × V)}, KRel es kvs → (∀ v, kvs.lookup z = some v → ∃ e, es.find? (·.key.isStr z) = some e ∧ RelV v e.val) ∧ (kvs.lookup z = none → es.find? (·.key.isStr z) = none) ∧ es.any (·.refKey) = false
  | [], [], _ => ⟨fun v h => by simp at h, fun _ => rfl, rfl⟩
  | e :: r, (y, v) :: kvs, h => by
    cases h with
    | cons hk hu hr =>
      obtain ⟨h1, h2, h3⟩ := hr.find (z := z)
      have er : e.refKey = false := by unfold DictEntry.refKey; rw [hk]
      refine ⟨fun v' hv => ?_, fun hn => ?_, by rw [List.any_cons, er, h3]; rfl⟩
      · by_cases e1 : z = y
        · subst e1
          rw [lk, if_pos rfl] at hv
          cases hv
          refine ⟨e, ?_, hu⟩
          rw [List.find?_cons_of_pos]
          rw [hk]; simp [Value.isStr]
        · rw [lk, if_neg e1] at hv
          obtain ⟨e', g1, g2⟩ := h1 v' hv
          refine ⟨e', ?_, g2⟩
          rw [List.find?_cons_of_neg]
          · exact g1
          · rw [hk]; simp [Value.isStr]; intro q; exact e1 q.symm
      · by_cases e1 : z = y
        · rw [lk, if_pos e1] at hn; cases hn
        · rw [lk, if_neg e1] at hn
          rw [List.find?_cons_of_neg]
          · exact h2 hn
          · rw [hk]; simp [Value.isStr]; intro q; exact e1 q.symm
theorem kt_of {w : World} {K : PySem.W.Frag} {d n : Nat} {es : Array DictEntry} {kvs : List (Str × V)} (l : K.lookup d = some ⟨.type "dict", none, .dict es n, #[]⟩) (hk : PySem.W.KeysLit w.params es.toList) (lo : (d == sysModules) = false) (r : KRel es.toList kvs) : KT K w d kvs := by
  refine ⟨⟨es, n, l, hk, lo⟩, fun z v hz => ?_, fun z hz => ?_⟩
  · obtain ⟨e, h1, h2⟩ := (r.find (z := z)).1 v hz
    refine ⟨e.val, ?_, h2⟩
    unfold PySem.W.nsIn
    rw [l]
    dsimp only
    rw [h1]
  · unfold PySem.W.nsIn
    rw [l]
    dsimp only
    rw [(r.find (z := z)).2.1 hz]
    dsimp only
    rw [(r.find (z := z)).2.2]
    rfl
theorem mk_BadWords_init {K : PySem.W.Frag} {f : Addr} {od an : Option Addr} {sl : Array (Option Value)} {oc kV dc pm cd ct : Value} (l : K.lookup f = some ⟨oc, od, .func (PySem.W.fnOf "__init__" "BadWords.__init__" (defArgs s_BadWords_init) (defBody s_BadWords_init) (defScope s_BadWords_init) .none kV dc pm an cd ct), sl⟩) (c : PySem.W.codeIn K cd "BadWords.__init__" = true) (k : PySem.W.keepIn K (.ref f) = true) :
    ∃ fd : FuncData, Fun K "__init__" "BadWords.__init__" s_BadWords_init f fd ∧ Binds K fd ["self", "at"] [] := ⟨_, fun_mk (st := s_BadWords_init) l c k, (fun_mk (st := s_BadWords_init) l c k).binds (ps := ["self", "at"]) fun _ _ _ _ _ _ us hl => match us, hl with | [_, _], _ => rfl⟩
theorem mk_BadSource_init {K : PySem.W.Frag} {f : Addr} {od an : Option Addr} {sl : Array (Option Value)} {oc kV dc pm cd ct : Value} (l : K.lookup f = some ⟨oc, od, .func (PySem.W.fnOf "__init__" "BadSource.__init__" (defArgs s_BadSource_init) (defBody s_BadSource_init) (defScope s_BadSource_init) .none kV dc pm an cd ct), sl⟩) (c : PySem.W.codeIn K cd "BadSource.__init__" = true) (k : PySem.W.keepIn K (.ref f) = true) :
    ∃ fd : FuncData, Fun K "__init__" "BadSource.__init__" s_BadSource_init f fd ∧ Binds K fd ["self", "number"] [] := ⟨_, fun_mk (st := s_BadSource_init) l c k, (fun_mk (st := s_BadSource_init) l c k).binds (ps := ["self", "number"]) fun _ _ _ _ _ _ us hl => match us, hl with | [_, _], _ => rfl⟩
theorem mk_is_int {K : PySem.W.Frag} {f : Addr} {od an : Option Addr} {sl : Array (Option Value)} {oc kV dc pm cd ct : Value} (l : K.lookup f = some ⟨oc, od, .func (PySem.W.fnOf "is_int" "is_int" (defArgs s_is_int) (defBody s_is_int) (defScope s_is_int) .none kV dc pm an cd ct), sl⟩) (c : PySem.W.codeIn K cd "is_int" = true) (k : PySem.W.keepIn K (.ref f) = true) :
    ∃ fd : FuncData, Fun K "is_int" "is_int" s_is_int f fd ∧ Binds K fd ["value"] [] := ⟨_, fun_mk (st := s_is_int) l c k, (fun_mk (st := s_is_int) l c k).binds (ps := ["value"]) fun _ _ _ _ _ _ us hl => match us, hl with | [_], _ => rfl⟩
theorem mk_is_row {K : PySem.W.Frag} {f : Addr} {od an : Option Addr} {sl : Array (Option Value)} {oc kV dc pm cd ct : Value} (l : K.lookup f = some ⟨oc, od, .func (PySem.W.fnOf "is_row" "is_row" (defArgs s_is_row) (defBody s_is_row) (defScope s_is_row) .none kV dc pm an cd ct), sl⟩) (c : PySem.W.codeIn K cd "is_row" = true) (k : PySem.W.keepIn K (.ref f) = true) :
    ∃ fd : FuncData, Fun K "is_row" "is_row" s_is_row f fd ∧ Binds K fd ["value"] [] := ⟨_, fun_mk (st := s_is_row) l c k, (fun_mk (st := s_is_row) l c k).binds (ps := ["value"]) fun _ _ _ _ _ _ us hl => match us, hl with | [_], _ => rfl⟩
theorem mk_is_word {K : PySem.W.Frag} {f : Addr} {od an : Option Addr} {sl : Array (Option Value)} {oc kV dc pm cd ct : Value} (l : K.lookup f = some ⟨oc, od, .func (PySem.W.fnOf "is_word" "is_word" (defArgs s_is_word) (defBody s_is_word) (defScope s_is_word) .none kV dc pm an cd ct), sl⟩) (c : PySem.W.codeIn K cd "is_word" = true) (k : PySem.W.keepIn K (.ref f) = true) :
    ∃ fd : FuncData, Fun K "is_word" "is_word" s_is_word f fd ∧ Binds K fd ["value", "width"] [] := ⟨_, fun_mk (st := s_is_word) l c k, (fun_mk (st := s_is_word) l c k).binds (ps := ["value", "width"]) fun _ _ _ _ _ _ us hl => match us, hl with | [_, _], _ => rfl⟩
theorem mk_check_int {K : PySem.W.Frag} {f : Addr} {od an : Option Addr} {sl : Array (Option Value)} {oc kV dc pm cd ct : Value} (l : K.lookup f = some ⟨oc, od, .func (PySem.W.fnOf "check_int" "check_int" (defArgs s_check_int) (defBody s_check_int) (defScope s_check_int) .none kV dc pm an cd ct), sl⟩) (c : PySem.W.codeIn K cd "check_int" = true) (k : PySem.W.keepIn K (.ref f) = true) :
    ∃ fd : FuncData, Fun K "check_int" "check_int" s_check_int f fd ∧ Binds K fd ["value", "low", "high", "name"] [] := ⟨_, fun_mk (st := s_check_int) l c k, (fun_mk (st := s_check_int) l c k).binds (ps := ["value", "low", "high", "name"]) fun _ _ _ _ _ _ us hl => match us, hl with | [_, _, _, _], _ => rfl⟩
theorem mk_letters_of {K : PySem.W.Frag} {f : Addr} {od an : Option Addr} {sl : Array (Option Value)} {oc kV dc pm cd ct : Value} (l : K.lookup f = some ⟨oc, od, .func (PySem.W.fnOf "letters_of" "letters_of" (defArgs s_letters_of) (defBody s_letters_of) (defScope s_letters_of) .none kV dc pm an cd ct), sl⟩) (c : PySem.W.codeIn K cd "letters_of" = true) (k : PySem.W.keepIn K (.ref f) = true) :
    ∃ fd : FuncData, Fun K "letters_of" "letters_of" s_letters_of f fd ∧ Binds K fd ["patterns"] [] := ⟨_, fun_mk (st := s_letters_of) l c k, (fun_mk (st := s_letters_of) l c k).binds (ps := ["patterns"]) fun _ _ _ _ _ _ us hl => match us, hl with | [_], _ => rfl⟩
theorem mk_fixed_bits {K : PySem.W.Frag} {f : Addr} {od an : Option Addr} {sl : Array (Option Value)} {oc kV dc pm cd ct : Value} (l : K.lookup f = some ⟨oc, od, .func (PySem.W.fnOf "fixed_bits" "fixed_bits" (defArgs s_fixed_bits) (defBody s_fixed_bits) (defScope s_fixed_bits) .none kV dc pm an cd ct), sl⟩) (c : PySem.W.codeIn K cd "fixed_bits" = true) (k : PySem.W.keepIn K (.ref f) = true) :
    ∃ fd : FuncData, Fun K "fixed_bits" "fixed_bits" s_fixed_bits f fd ∧ Binds K fd ["pattern"] [] := ⟨_, fun_mk (st := s_fixed_bits) l c k, (fun_mk (st := s_fixed_bits) l c k).binds (ps := ["pattern"]) fun _ _ _ _ _ _ us hl => match us, hl with | [_], _ => rfl⟩
theorem mk_letters_for {K : PySem.W.Frag} {f : Addr} {od an : Option Addr} {sl : Array (Option Value)} {oc kV dc pm cd ct : Value} (l : K.lookup f = some ⟨oc, od, .func (PySem.W.fnOf "letters_for" "letters_for" (defArgs s_letters_for) (defBody s_letters_for) (defScope s_letters_for) .none kV dc pm an cd ct), sl⟩) (c : PySem.W.codeIn K cd "letters_for" = true) (k : PySem.W.keepIn K (.ref f) = true) :
    ∃ fd : FuncData, Fun K "letters_for" "letters_for" s_letters_for f fd ∧ Binds K fd ["sign"] [] := ⟨_, fun_mk (st := s_letters_for) l c k, (fun_mk (st := s_letters_for) l c k).binds (ps := ["sign"]) fun _ _ _ _ _ _ us hl => match us, hl with | [_], _ => rfl⟩
theorem mk_written_line {K : PySem.W.Frag} {f : Addr} {od an : Option Addr} {sl : Array (Option Value)} {oc kV dc pm cd ct : Value} (l : K.lookup f = some ⟨oc, od, .func (PySem.W.fnOf "written_line" "written_line" (defArgs s_written_line) (defBody s_written_line) (defScope s_written_line) .none kV dc pm an cd ct), sl⟩) (c : PySem.W.codeIn K cd "written_line" = true) (k : PySem.W.keepIn K (.ref f) = true) :
    ∃ fd : FuncData, Fun K "written_line" "written_line" s_written_line f fd ∧ Binds K fd ["entries"] [] := ⟨_, fun_mk (st := s_written_line) l c k, (fun_mk (st := s_written_line) l c k).binds (ps := ["entries"]) fun _ _ _ _ _ _ us hl => match us, hl with | [_], _ => rfl⟩
theorem mk_is_name {K : PySem.W.Frag} {f : Addr} {od an : Option Addr} {sl : Array (Option Value)} {oc kV dc pm cd ct : Value} (l : K.lookup f = some ⟨oc, od, .func (PySem.W.fnOf "is_name" "is_name" (defArgs s_is_name) (defBody s_is_name) (defScope s_is_name) .none kV dc pm an cd ct), sl⟩) (c : PySem.W.codeIn K cd "is_name" = true) (k : PySem.W.keepIn K (.ref f) = true) :
    ∃ fd : FuncData, Fun K "is_name" "is_name" s_is_name f fd ∧ Binds K fd ["name"] [] := ⟨_, fun_mk (st := s_is_name) l c k, (fun_mk (st := s_is_name) l c k).binds (ps := ["name"]) fun _ _ _ _ _ _ us hl => match us, hl with | [_], _ => rfl⟩
theorem mk_first_of {K : PySem.W.Frag} {f : Addr} {od an : Option Addr} {sl : Array (Option Value)} {oc kV dc pm cd ct : Value} (l : K.lookup f = some ⟨oc, od, .func (PySem.W.fnOf "_first_of" "_first_of" (defArgs s_first_of) (defBody s_first_of) (defScope s_first_of) .none kV dc pm an cd ct), sl⟩) (c : PySem.W.codeIn K cd "_first_of" = true) (k : PySem.W.keepIn K (.ref f) = true) :
    ∃ fd : FuncData, Fun K "_first_of" "_first_of" s_first_of f fd ∧ Binds K fd ["lines", "names"] [] := ⟨_, fun_mk (st := s_first_of) l c k, (fun_mk (st := s_first_of) l c k).binds (ps := ["lines", "names"]) fun _ _ _ _ _ _ us hl => match us, hl with | [_, _], _ => rfl⟩
theorem mk_is_pattern {K : PySem.W.Frag} {f : Addr} {od an : Option Addr} {sl : Array (Option Value)} {oc kV dc pm cd ct : Value} (l : K.lookup f = some ⟨oc, od, .func (PySem.W.fnOf "_is_pattern" "_is_pattern" (defArgs s_is_pattern) (defBody s_is_pattern) (defScope s_is_pattern) .none kV dc pm an cd ct), sl⟩) (c : PySem.W.codeIn K cd "_is_pattern" = true) (k : PySem.W.keepIn K (.ref f) = true) :
    ∃ fd : FuncData, Fun K "_is_pattern" "_is_pattern" s_is_pattern f fd ∧ Binds K fd ["word", "pattern"] [] := ⟨_, fun_mk (st := s_is_pattern) l c k, (fun_mk (st := s_is_pattern) l c k).binds (ps := ["word", "pattern"]) fun _ _ _ _ _ _ us hl => match us, hl with | [_, _], _ => rfl⟩
theorem mk_are_patterns {K : PySem.W.Frag} {f : Addr} {od an : Option Addr} {sl : Array (Option Value)} {oc kV dc pm cd ct : Value} (l : K.lookup f = some ⟨oc, od, .func (PySem.W.fnOf "_are_patterns" "_are_patterns" (defArgs s_are_patterns) (defBody s_are_patterns) (defScope s_are_patterns) .none kV dc pm an cd ct), sl⟩) (c : PySem.W.codeIn K cd "_are_patterns" = true) (k : PySem.W.keepIn K (.ref f) = true) :
    ∃ fd : FuncData, Fun K "_are_patterns" "_are_patterns" s_are_patterns f fd ∧ Binds K fd ["word", "registers", "patterns"] [] := ⟨_, fun_mk (st := s_are_patterns) l c k, (fun_mk (st := s_are_patterns) l c k).binds (ps := ["word", "registers", "patterns"]) fun _ _ _ _ _ _ us hl => match us, hl with | [_, _, _], _ => rfl⟩
theorem mk_first_wrong {K : PySem.W.Frag} {f : Addr} {od an : Option Addr} {sl : Array (Option Value)} {oc kV dc pm cd ct : Value} (l : K.lookup f = some ⟨oc, od, .func (PySem.W.fnOf "_first_wrong" "_first_wrong" (defArgs s_first_wrong) (defBody s_first_wrong) (defScope s_first_wrong) .none kV dc pm an cd ct), sl⟩) (c : PySem.W.codeIn K cd "_first_wrong" = true) (k : PySem.W.keepIn K (.ref f) = true) :
    ∃ fd : FuncData, Fun K "_first_wrong" "_first_wrong" s_first_wrong f fd ∧ Binds K fd ["grammar", "lines"] [] := ⟨_, fun_mk (st := s_first_wrong) l c k, (fun_mk (st := s_first_wrong) l c k).binds (ps := ["grammar", "lines"]) fun _ _ _ _ _ _ us hl => match us, hl with | [_, _], _ => rfl⟩
theorem mk_Form_init {K : PySem.W.Frag} {f : Addr} {od an : Option Addr} {sl : Array (Option Value)} {oc kV dc pm cd ct : Value} (l : K.lookup f = some ⟨oc, od, .func (PySem.W.fnOf "__init__" "Form.__init__" (defArgs s_Form_init) (defBody s_Form_init) (defScope s_Form_init) .none kV dc pm an cd ct), sl⟩) (c : PySem.W.codeIn K cd "Form.__init__" = true) (k : PySem.W.keepIn K (.ref f) = true) :
    ∃ fd : FuncData, Fun K "__init__" "Form.__init__" s_Form_init f fd ∧ Binds K fd ["self", "name", "patterns", "lines"] [] := ⟨_, fun_mk (st := s_Form_init) l c k, (fun_mk (st := s_Form_init) l c k).binds (ps := ["self", "name", "patterns", "lines"]) fun _ _ _ _ _ _ us hl => match us, hl with | [_, _, _, _], _ => rfl⟩
theorem mk_Grammar_init {K : PySem.W.Frag} {f : Addr} {od an : Option Addr} {sl : Array (Option Value)} {oc kV dc pm cd ct : Value} (l : K.lookup f = some ⟨oc, od, .func (PySem.W.fnOf "__init__" "Grammar.__init__" (defArgs s_Grammar_init) (defBody s_Grammar_init) (defScope s_Grammar_init) .none kV dc pm an cd ct), sl⟩) (c : PySem.W.codeIn K cd "Grammar.__init__" = true) (k : PySem.W.keepIn K (.ref f) = true) :
    ∃ fd : FuncData, Fun K "__init__" "Grammar.__init__" s_Grammar_init f fd ∧ Binds K fd ["self", "word", "registers", "letters"] [] := ⟨_, fun_mk (st := s_Grammar_init) l c k, (fun_mk (st := s_Grammar_init) l c k).binds (ps := ["self", "word", "registers", "letters"]) fun _ _ _ _ _ _ us hl => match us, hl with | [_, _, _, _], _ => rfl⟩
theorem mk_checked_forms {K : PySem.W.Frag} {f : Addr} {od an : Option Addr} {sl : Array (Option Value)} {oc kV dc pm cd ct : Value} (l : K.lookup f = some ⟨oc, od, .func (PySem.W.fnOf "_checked_forms" "_checked_forms" (defArgs s_checked_forms) (defBody s_checked_forms) (defScope s_checked_forms) .none kV dc pm an cd ct), sl⟩) (c : PySem.W.codeIn K cd "_checked_forms" = true) (k : PySem.W.keepIn K (.ref f) = true) :
    ∃ fd : FuncData, Fun K "_checked_forms" "_checked_forms" s_checked_forms f fd ∧ Binds K fd ["word", "registers", "forms"] [] := ⟨_, fun_mk (st := s_checked_forms) l c k, (fun_mk (st := s_checked_forms) l c k).binds (ps := ["word", "registers", "forms"]) fun _ _ _ _ _ _ us hl => match us, hl with | [_, _, _], _ => rfl⟩
theorem mk_written {K : PySem.W.Frag} {f : Addr} {od an : Option Addr} {sl : Array (Option Value)} {oc kV dc pm cd ct : Value} (l : K.lookup f = some ⟨oc, od, .func (PySem.W.fnOf "_written" "_written" (defArgs s_written) (defBody s_written) (defScope s_written) .none kV dc pm an cd ct), sl⟩) (c : PySem.W.codeIn K cd "_written" = true) (k : PySem.W.keepIn K (.ref f) = true) :
    ∃ fd : FuncData, Fun K "_written" "_written" s_written f fd ∧ Binds K fd ["book"] [] := ⟨_, fun_mk (st := s_written) l c k, (fun_mk (st := s_written) l c k).binds (ps := ["book"]) fun _ _ _ _ _ _ us hl => match us, hl with | [_], _ => rfl⟩
theorem mk_Book_init {K : PySem.W.Frag} {f : Addr} {od an : Option Addr} {sl : Array (Option Value)} {oc kV dc pm cd ct : Value} (l : K.lookup f = some ⟨oc, od, .func (PySem.W.fnOf "__init__" "Book.__init__" (defArgs s_Book_init) (defBody s_Book_init) (defScope s_Book_init) .none kV dc pm an cd ct), sl⟩) (c : PySem.W.codeIn K cd "Book.__init__" = true) (k : PySem.W.keepIn K (.ref f) = true) :
    ∃ fd : FuncData, Fun K "__init__" "Book.__init__" s_Book_init f fd ∧ Binds K fd ["self", "word", "registers", "forms"] [] := ⟨_, fun_mk (st := s_Book_init) l c k, (fun_mk (st := s_Book_init) l c k).binds (ps := ["self", "word", "registers", "forms"]) fun _ _ _ _ _ _ us hl => match us, hl with | [_, _, _, _], _ => rfl⟩
theorem mk_Grammar_is_line {K : PySem.W.Frag} {f : Addr} {od an : Option Addr} {sl : Array (Option Value)} {oc kV dc pm cd ct : Value} (l : K.lookup f = some ⟨oc, od, .func (PySem.W.fnOf "is_line" "Grammar.is_line" (defArgs s_Grammar_is_line) (defBody s_Grammar_is_line) (defScope s_Grammar_is_line) .none kV dc pm an cd ct), sl⟩) (c : PySem.W.codeIn K cd "Grammar.is_line" = true) (k : PySem.W.keepIn K (.ref f) = true) :
    ∃ fd : FuncData, Fun K "is_line" "Grammar.is_line" s_Grammar_is_line f fd ∧ Binds K fd ["self", "line", "values"] [] := ⟨_, fun_mk (st := s_Grammar_is_line) l c k, (fun_mk (st := s_Grammar_is_line) l c k).binds (ps := ["self", "line", "values"]) fun _ _ _ _ _ _ us hl => match us, hl with | [_, _, _], _ => rfl⟩
theorem mk_Grammar_is_entry {K : PySem.W.Frag} {f : Addr} {od an : Option Addr} {sl : Array (Option Value)} {oc kV dc pm cd ct : Value} (l : K.lookup f = some ⟨oc, od, .func (PySem.W.fnOf "is_entry" "Grammar.is_entry" (defArgs s_Grammar_is_entry) (defBody s_Grammar_is_entry) (defScope s_Grammar_is_entry) .none kV dc pm an cd ct), sl⟩) (c : PySem.W.codeIn K cd "Grammar.is_entry" = true) (k : PySem.W.keepIn K (.ref f) = true) :
    ∃ fd : FuncData, Fun K "is_entry" "Grammar.is_entry" s_Grammar_is_entry f fd ∧ Binds K fd ["self", "sign", "entry", "values"] [] := ⟨_, fun_mk (st := s_Grammar_is_entry) l c k, (fun_mk (st := s_Grammar_is_entry) l c k).binds (ps := ["self", "sign", "entry", "values"]) fun _ _ _ _ _ _ us hl => match us, hl with | [_, _, _, _], _ => rfl⟩
theorem mk_ones {K : PySem.W.Frag} {f : Addr} {od an : Option Addr} {sl : Array (Option Value)} {oc kV dc pm cd ct : Value} (l : K.lookup f = some ⟨oc, od, .func (PySem.W.fnOf "ones" "ones" (defArgs s_ones) (defBody s_ones) (defScope s_ones) .none kV dc pm an cd ct), sl⟩) (c : PySem.W.codeIn K cd "ones" = true) (k : PySem.W.keepIn K (.ref f) = true) :
    ∃ fd : FuncData, Fun K "ones" "ones" s_ones f fd ∧ Binds K fd ["width"] [] := ⟨_, fun_mk (st := s_ones) l c k, (fun_mk (st := s_ones) l c k).binds (ps := ["width"]) fun _ _ _ _ _ _ us hl => match us, hl with | [_], _ => rfl⟩
theorem mk_check_length {K : PySem.W.Frag} {f : Addr} {od an : Option Addr} {sl : Array (Option Value)} {oc kV dc pm cd ct : Value} (l : K.lookup f = some ⟨oc, od, .func (PySem.W.fnOf "check_length" "check_length" (defArgs s_check_length) (defBody s_check_length) (defScope s_check_length) .none kV dc pm an cd ct), sl⟩) (c : PySem.W.codeIn K cd "check_length" = true) (k : PySem.W.keepIn K (.ref f) = true) :
    ∃ fd : FuncData, Fun K "check_length" "check_length" s_check_length f fd ∧ Binds K fd ["row", "many"] [] := ⟨_, fun_mk (st := s_check_length) l c k, (fun_mk (st := s_check_length) l c k).binds (ps := ["row", "many"]) fun _ _ _ _ _ _ us hl => match us, hl with | [_, _], _ => rfl⟩
theorem mk_check_entries {K : PySem.W.Frag} {f : Addr} {od an : Option Addr} {sl : Array (Option Value)} {oc kV dc pm cd ct : Value} (l : K.lookup f = some ⟨oc, od, .func (PySem.W.fnOf "check_entries" "check_entries" (defArgs s_check_entries) (defBody s_check_entries) (defScope s_check_entries) .none kV dc pm an cd ct), sl⟩) (c : PySem.W.codeIn K cd "check_entries" = true) (k : PySem.W.keepIn K (.ref f) = true) :
    ∃ fd : FuncData, Fun K "check_entries" "check_entries" s_check_entries f fd ∧ Binds K fd ["row", "most"] [] := ⟨_, fun_mk (st := s_check_entries) l c k, (fun_mk (st := s_check_entries) l c k).binds (ps := ["row", "most"]) fun _ _ _ _ _ _ us hl => match us, hl with | [_, _], _ => rfl⟩
theorem mk_check_words {K : PySem.W.Frag} {f : Addr} {od an : Option Addr} {sl : Array (Option Value)} {oc kV dc pm cd ct : Value} (l : K.lookup f = some ⟨oc, od, .func (PySem.W.fnOf "check_words" "check_words" (defArgs s_check_words) (defBody s_check_words) (defScope s_check_words) .none kV dc pm an cd ct), sl⟩) (c : PySem.W.codeIn K cd "check_words" = true) (k : PySem.W.keepIn K (.ref f) = true) :
    ∃ fd : FuncData, Fun K "check_words" "check_words" s_check_words f fd ∧ Binds K fd ["row", "width", "many"] [] := ⟨_, fun_mk (st := s_check_words) l c k, (fun_mk (st := s_check_words) l c k).binds (ps := ["row", "width", "many"]) fun _ _ _ _ _ _ us hl => match us, hl with | [_, _, _], _ => rfl⟩
theorem mk_op_word {K : PySem.W.Frag} {f : Addr} {od an : Option Addr} {sl : Array (Option Value)} {oc kV dc pm cd ct : Value} (l : K.lookup f = some ⟨oc, od, .func (PySem.W.fnOf "op_word" "op_word" (defArgs s_op_word) (defBody s_op_word) (defScope s_op_word) .none kV dc pm an cd ct), sl⟩) (c : PySem.W.codeIn K cd "op_word" = true) (k : PySem.W.keepIn K (.ref f) = true) :
    ∃ fd : FuncData, Fun K "op_word" "op_word" s_op_word f fd ∧ Binds K fd ["name", "one", "other", "width"] [] := ⟨_, fun_mk (st := s_op_word) l c k, (fun_mk (st := s_op_word) l c k).binds (ps := ["name", "one", "other", "width"]) fun _ _ _ _ _ _ us hl => match us, hl with | [_, _, _, _], _ => rfl⟩
theorem mk_Book_form_named {K : PySem.W.Frag} {f : Addr} {od an : Option Addr} {sl : Array (Option Value)} {oc kV dc pm cd ct : Value} (l : K.lookup f = some ⟨oc, od, .func (PySem.W.fnOf "form_named" "Book.form_named" (defArgs s_Book_form_named) (defBody s_Book_form_named) (defScope s_Book_form_named) .none kV dc pm an cd ct), sl⟩) (c : PySem.W.codeIn K cd "Book.form_named" = true) (k : PySem.W.keepIn K (.ref f) = true) :
    ∃ fd : FuncData, Fun K "form_named" "Book.form_named" s_Book_form_named f fd ∧ Binds K fd ["self", "name"] [] := ⟨_, fun_mk (st := s_Book_form_named) l c k, (fun_mk (st := s_Book_form_named) l c k).binds (ps := ["self", "name"]) fun _ _ _ _ _ _ us hl => match us, hl with | [_, _], _ => rfl⟩
theorem mk_form_of {K : PySem.W.Frag} {f : Addr} {od an : Option Addr} {sl : Array (Option Value)} {oc kV dc pm cd ct : Value} (l : K.lookup f = some ⟨oc, od, .func (PySem.W.fnOf "form_of" "form_of" (defArgs s_form_of) (defBody s_form_of) (defScope s_form_of) .none kV dc pm an cd ct), sl⟩) (c : PySem.W.codeIn K cd "form_of" = true) (k : PySem.W.keepIn K (.ref f) = true) :
    ∃ fd : FuncData, Fun K "form_of" "form_of" s_form_of f fd ∧ Binds K fd ["book", "instruction"] [] := ⟨_, fun_mk (st := s_form_of) l c k, (fun_mk (st := s_form_of) l c k).binds (ps := ["book", "instruction"]) fun _ _ _ _ _ _ us hl => match us, hl with | [_, _], _ => rfl⟩
theorem mk_letters_told {K : PySem.W.Frag} {f : Addr} {od an : Option Addr} {sl : Array (Option Value)} {oc kV dc pm cd ct : Value} (l : K.lookup f = some ⟨oc, od, .func (PySem.W.fnOf "letters_told" "letters_told" (defArgs s_letters_told) (defBody s_letters_told) (defScope s_letters_told) .none kV dc pm an cd ct), sl⟩) (c : PySem.W.codeIn K cd "letters_told" = true) (k : PySem.W.keepIn K (.ref f) = true) :
    ∃ fd : FuncData, Fun K "letters_told" "letters_told" s_letters_told f fd ∧ Binds K fd ["form", "numbers"] [] := ⟨_, fun_mk (st := s_letters_told) l c k, (fun_mk (st := s_letters_told) l c k).binds (ps := ["form", "numbers"]) fun _ _ _ _ _ _ us hl => match us, hl with | [_, _], _ => rfl⟩
theorem mk_Answers_init {K : PySem.W.Frag} {f : Addr} {od an : Option Addr} {sl : Array (Option Value)} {oc kV dc pm cd ct : Value} (l : K.lookup f = some ⟨oc, od, .func (PySem.W.fnOf "__init__" "Answers.__init__" (defArgs s_Answers_init) (defBody s_Answers_init) (defScope s_Answers_init) .none kV dc pm an cd ct), sl⟩) (c : PySem.W.codeIn K cd "Answers.__init__" = true) (k : PySem.W.keepIn K (.ref f) = true) :
    ∃ fd : FuncData, Fun K "__init__" "Answers.__init__" s_Answers_init f fd ∧ Binds K fd ["self", "answers"] [] := ⟨_, fun_mk (st := s_Answers_init) l c k, (fun_mk (st := s_Answers_init) l c k).binds (ps := ["self", "answers"]) fun _ _ _ _ _ _ us hl => match us, hl with | [_, _], _ => rfl⟩
theorem mk_Answers_answer {K : PySem.W.Frag} {f : Addr} {od an : Option Addr} {sl : Array (Option Value)} {oc kV dc pm cd ct : Value} (l : K.lookup f = some ⟨oc, od, .func (PySem.W.fnOf "answer" "Answers.answer" (defArgs s_Answers_answer) (defBody s_Answers_answer) (defScope s_Answers_answer) .none kV dc pm an cd ct), sl⟩) (c : PySem.W.codeIn K cd "Answers.answer" = true) (k : PySem.W.keepIn K (.ref f) = true) :
    ∃ fd : FuncData, Fun K "answer" "Answers.answer" s_Answers_answer f fd ∧ Binds K fd ["self", "ask"] [] := ⟨_, fun_mk (st := s_Answers_answer) l c k, (fun_mk (st := s_Answers_answer) l c k).binds (ps := ["self", "ask"]) fun _ _ _ _ _ _ us hl => match us, hl with | [_, _], _ => rfl⟩
theorem mk_answer_at {K : PySem.W.Frag} {f : Addr} {od an : Option Addr} {sl : Array (Option Value)} {oc kV dc pm cd ct : Value} (l : K.lookup f = some ⟨oc, od, .func (PySem.W.fnOf "answer_at" "answer_at" (defArgs s_answer_at) (defBody s_answer_at) (defScope s_answer_at) .none kV dc pm an cd ct), sl⟩) (c : PySem.W.codeIn K cd "answer_at" = true) (k : PySem.W.keepIn K (.ref f) = true) :
    ∃ fd : FuncData, Fun K "answer_at" "answer_at" s_answer_at f fd ∧ Binds K fd ["answers", "at"] [] := ⟨_, fun_mk (st := s_answer_at) l c k, (fun_mk (st := s_answer_at) l c k).binds (ps := ["answers", "at"]) fun _ _ _ _ _ _ us hl => match us, hl with | [_, _], _ => rfl⟩
theorem mk_Doing_init {K : PySem.W.Frag} {f : Addr} {od an : Option Addr} {sl : Array (Option Value)} {oc kV dc pm cd ct : Value} (l : K.lookup f = some ⟨oc, od, .func (PySem.W.fnOf "__init__" "Doing.__init__" (defArgs s_Doing_init) (defBody s_Doing_init) (defScope s_Doing_init) .none kV dc pm an cd ct), sl⟩) (c : PySem.W.codeIn K cd "Doing.__init__" = true) (k : PySem.W.keepIn K (.ref f) = true) :
    ∃ fd : FuncData, Fun K "__init__" "Doing.__init__" s_Doing_init f fd ∧ Binds K fd ["self", "book", "instruction", "place", "regs"] [] := ⟨_, fun_mk (st := s_Doing_init) l c k, (fun_mk (st := s_Doing_init) l c k).binds (ps := ["self", "book", "instruction", "place", "regs"]) fun _ _ _ _ _ _ us hl => match us, hl with | [_, _, _, _, _], _ => rfl⟩
theorem mk_Doing_told {K : PySem.W.Frag} {f : Addr} {od an : Option Addr} {sl : Array (Option Value)} {oc kV dc pm cd ct : Value} (l : K.lookup f = some ⟨oc, od, .func (PySem.W.fnOf "told" "Doing.told" (defArgs s_Doing_told) (defBody s_Doing_told) (defScope s_Doing_told) .none kV dc pm an cd ct), sl⟩) (c : PySem.W.codeIn K cd "Doing.told" = true) (k : PySem.W.keepIn K (.ref f) = true) :
    ∃ fd : FuncData, Fun K "told" "Doing.told" s_Doing_told f fd ∧ Binds K fd ["self", "entry"] [] := ⟨_, fun_mk (st := s_Doing_told) l c k, (fun_mk (st := s_Doing_told) l c k).binds (ps := ["self", "entry"]) fun _ _ _ _ _ _ us hl => match us, hl with | [_, _], _ => rfl⟩
theorem mk_Doing_ask {K : PySem.W.Frag} {f : Addr} {od an : Option Addr} {sl : Array (Option Value)} {oc kV dc pm cd ct : Value} (l : K.lookup f = some ⟨oc, od, .func (PySem.W.fnOf "ask" "Doing.ask" (defArgs s_Doing_ask) (defBody s_Doing_ask) (defScope s_Doing_ask) .none kV dc pm an cd ct), sl⟩) (c : PySem.W.codeIn K cd "Doing.ask" = true) (k : PySem.W.keepIn K (.ref f) = true) :
    ∃ fd : FuncData, Fun K "ask" "Doing.ask" s_Doing_ask f fd ∧ Binds K fd ["self", "line"] [] := ⟨_, fun_mk (st := s_Doing_ask) l c k, (fun_mk (st := s_Doing_ask) l c k).binds (ps := ["self", "line"]) fun _ _ _ _ _ _ us hl => match us, hl with | [_, _], _ => rfl⟩
theorem mk_Doing_value {K : PySem.W.Frag} {f : Addr} {od an : Option Addr} {sl : Array (Option Value)} {oc kV dc pm cd ct : Value} (l : K.lookup f = some ⟨oc, od, .func (PySem.W.fnOf "value" "Doing.value" (defArgs s_Doing_value) (defBody s_Doing_value) (defScope s_Doing_value) .none kV dc pm an cd ct), sl⟩) (c : PySem.W.codeIn K cd "Doing.value" = true) (k : PySem.W.keepIn K (.ref f) = true) :
    ∃ fd : FuncData, Fun K "value" "Doing.value" s_Doing_value f fd ∧ Binds K fd ["self", "line"] [] := ⟨_, fun_mk (st := s_Doing_value) l c k, (fun_mk (st := s_Doing_value) l c k).binds (ps := ["self", "line"]) fun _ _ _ _ _ _ us hl => match us, hl with | [_, _], _ => rfl⟩
theorem mk_Doing_stopped {K : PySem.W.Frag} {f : Addr} {od an : Option Addr} {sl : Array (Option Value)} {oc kV dc pm cd ct : Value} (l : K.lookup f = some ⟨oc, od, .func (PySem.W.fnOf "stopped" "Doing.stopped" (defArgs s_Doing_stopped) (defBody s_Doing_stopped) (defScope s_Doing_stopped) .none kV dc pm an cd ct), sl⟩) (c : PySem.W.codeIn K cd "Doing.stopped" = true) (k : PySem.W.keepIn K (.ref f) = true) :
    ∃ fd : FuncData, Fun K "stopped" "Doing.stopped" s_Doing_stopped f fd ∧ Binds K fd ["self", "cause"] [] := ⟨_, fun_mk (st := s_Doing_stopped) l c k, (fun_mk (st := s_Doing_stopped) l c k).binds (ps := ["self", "cause"]) fun _ _ _ _ _ _ us hl => match us, hl with | [_, _], _ => rfl⟩
theorem mk_Doing_finished {K : PySem.W.Frag} {f : Addr} {od an : Option Addr} {sl : Array (Option Value)} {oc kV dc pm cd ct : Value} (l : K.lookup f = some ⟨oc, od, .func (PySem.W.fnOf "finished" "Doing.finished" (defArgs s_Doing_finished) (defBody s_Doing_finished) (defScope s_Doing_finished) .none kV dc pm an cd ct), sl⟩) (c : PySem.W.codeIn K cd "Doing.finished" = true) (k : PySem.W.keepIn K (.ref f) = true) :
    ∃ fd : FuncData, Fun K "finished" "Doing.finished" s_Doing_finished f fd ∧ Binds K fd ["self"] [] := ⟨_, fun_mk (st := s_Doing_finished) l c k, (fun_mk (st := s_Doing_finished) l c k).binds (ps := ["self"]) fun _ _ _ _ _ _ us hl => match us, hl with | [_], _ => rfl⟩
theorem mk_handed_over {K : PySem.W.Frag} {f : Addr} {od an : Option Addr} {sl : Array (Option Value)} {oc kV dc pm cd ct : Value} (l : K.lookup f = some ⟨oc, od, .func (PySem.W.fnOf "handed_over" "handed_over" (defArgs s_handed_over) (defBody s_handed_over) (defScope s_handed_over) .none kV dc pm an cd ct), sl⟩) (c : PySem.W.codeIn K cd "handed_over" = true) (k : PySem.W.keepIn K (.ref f) = true) :
    ∃ fd : FuncData, Fun K "handed_over" "handed_over" s_handed_over f fd ∧ Binds K fd ["book", "instruction", "place", "regs", "asker"] [] := ⟨_, fun_mk (st := s_handed_over) l c k, (fun_mk (st := s_handed_over) l c k).binds (ps := ["book", "instruction", "place", "regs", "asker"]) fun _ _ _ _ _ _ us hl => match us, hl with | [_, _, _, _, _], _ => rfl⟩
theorem mk_check_answers {K : PySem.W.Frag} {f : Addr} {od an : Option Addr} {sl : Array (Option Value)} {oc kV dc pm cd ct : Value} (l : K.lookup f = some ⟨oc, od, .func (PySem.W.fnOf "check_answers" "check_answers" (defArgs s_check_answers) (defBody s_check_answers) (defScope s_check_answers) .none kV dc pm an cd ct), sl⟩) (c : PySem.W.codeIn K cd "check_answers" = true) (k : PySem.W.keepIn K (.ref f) = true) :
    ∃ fd : FuncData, Fun K "check_answers" "check_answers" s_check_answers f fd ∧ Binds K fd ["word", "answers"] [] := ⟨_, fun_mk (st := s_check_answers) l c k, (fun_mk (st := s_check_answers) l c k).binds (ps := ["word", "answers"]) fun _ _ _ _ _ _ us hl => match us, hl with | [_, _], _ => rfl⟩
theorem mk_run_code {K : PySem.W.Frag} {f : Addr} {od an : Option Addr} {sl : Array (Option Value)} {oc kV dc pm cd ct : Value} (l : K.lookup f = some ⟨oc, od, .func (PySem.W.fnOf "run_code" "run_code" (defArgs s_run_code) (defBody s_run_code) (defScope s_run_code) .none kV dc pm an cd ct), sl⟩) (c : PySem.W.codeIn K cd "run_code" = true) (k : PySem.W.keepIn K (.ref f) = true) :
    ∃ fd : FuncData, Fun K "run_code" "run_code" s_run_code f fd ∧ Binds K fd ["book", "instruction", "place", "regs", "answers"] [] := ⟨_, fun_mk (st := s_run_code) l c k, (fun_mk (st := s_run_code) l c k).binds (ps := ["book", "instruction", "place", "regs", "answers"]) fun _ _ _ _ _ _ us hl => match us, hl with | [_, _, _, _, _], _ => rfl⟩
theorem mk_named {K : PySem.W.Frag} {f : Addr} {od an : Option Addr} {sl : Array (Option Value)} {oc kV dc pm cd ct : Value} (l : K.lookup f = some ⟨oc, od, .func (PySem.W.fnOf "named" "named" (defArgs s_named) (defBody s_named) (defScope s_named) .none kV dc pm an cd ct), sl⟩) (c : PySem.W.codeIn K cd "named" = true) (k : PySem.W.keepIn K (.ref f) = true) :
    ∃ fd : FuncData, Fun K "named" "named" s_named f fd ∧ Binds K fd ["book", "instruction"] [] := ⟨_, fun_mk (st := s_named) l c k, (fun_mk (st := s_named) l c k).binds (ps := ["book", "instruction"]) fun _ _ _ _ _ _ us hl => match us, hl with | [_, _], _ => rfl⟩
theorem mk_law_draws {K : PySem.W.Frag} {f : Addr} {od an : Option Addr} {sl : Array (Option Value)} {oc kV dc pm cd ct : Value} (l : K.lookup f = some ⟨oc, od, .func (PySem.W.fnOf "_law_draws" "_law_draws" (defArgs s_law_draws) (defBody s_law_draws) (defScope s_law_draws) .none kV dc pm an cd ct), sl⟩) (c : PySem.W.codeIn K cd "_law_draws" = true) (k : PySem.W.keepIn K (.ref f) = true) :
    ∃ fd : FuncData, Fun K "_law_draws" "_law_draws" s_law_draws f fd ∧ Binds K fd ["_law_script"] [] := ⟨_, fun_mk (st := s_law_draws) l c k, (fun_mk (st := s_law_draws) l c k).binds (ps := ["_law_script"]) fun _ _ _ _ _ _ us hl => match us, hl with | [_], _ => rfl⟩
theorem mk_law_take {K : PySem.W.Frag} {f : Addr} {od an : Option Addr} {sl : Array (Option Value)} {oc kV dc pm cd ct : Value} (l : K.lookup f = some ⟨oc, od, .func (PySem.W.fnOf "_law_take" "_law_take" (defArgs s_law_take) (defBody s_law_take) (defScope s_law_take) .none kV dc pm an cd ct), sl⟩) (c : PySem.W.codeIn K cd "_law_take" = true) (k : PySem.W.keepIn K (.ref f) = true) :
    ∃ fd : FuncData, Fun K "_law_take" "_law_take" s_law_take f fd ∧ Binds K fd ["_law_draws_here", "_law_many"] [] := ⟨_, fun_mk (st := s_law_take) l c k, (fun_mk (st := s_law_take) l c k).binds (ps := ["_law_draws_here", "_law_many"]) fun _ _ _ _ _ _ us hl => match us, hl with | [_, _], _ => rfl⟩
theorem mk_law_word {K : PySem.W.Frag} {f : Addr} {od an : Option Addr} {sl : Array (Option Value)} {oc kV dc pm cd ct : Value} (l : K.lookup f = some ⟨oc, od, .func (PySem.W.fnOf "_law_word" "_law_word" (defArgs s_law_word) (defBody s_law_word) (defScope s_law_word) .none kV dc pm an cd ct), sl⟩) (c : PySem.W.codeIn K cd "_law_word" = true) (k : PySem.W.keepIn K (.ref f) = true) :
    ∃ fd : FuncData, Fun K "_law_word" "_law_word" s_law_word f fd ∧ Binds K fd ["_law_draws_here", "_law_width"] [] := ⟨_, fun_mk (st := s_law_word) l c k, (fun_mk (st := s_law_word) l c k).binds (ps := ["_law_draws_here", "_law_width"]) fun _ _ _ _ _ _ us hl => match us, hl with | [_, _], _ => rfl⟩
theorem mk_law_is_int {K : PySem.W.Frag} {f : Addr} {od an : Option Addr} {sl : Array (Option Value)} {oc kV dc pm cd ct : Value} (l : K.lookup f = some ⟨oc, od, .func (PySem.W.fnOf "_law_is_int" "_law_is_int" (defArgs s_law_is_int) (defBody s_law_is_int) (defScope s_law_is_int) .none kV dc pm an cd ct), sl⟩) (c : PySem.W.codeIn K cd "_law_is_int" = true) (k : PySem.W.keepIn K (.ref f) = true) :
    ∃ fd : FuncData, Fun K "_law_is_int" "_law_is_int" s_law_is_int f fd ∧ Binds K fd ["_law_thing"] [] := ⟨_, fun_mk (st := s_law_is_int) l c k, (fun_mk (st := s_law_is_int) l c k).binds (ps := ["_law_thing"]) fun _ _ _ _ _ _ us hl => match us, hl with | [_], _ => rfl⟩
theorem mk_law_letters {K : PySem.W.Frag} {f : Addr} {od an : Option Addr} {sl : Array (Option Value)} {oc kV dc pm cd ct : Value} (l : K.lookup f = some ⟨oc, od, .func (PySem.W.fnOf "_law_letters" "_law_letters" (defArgs s_law_letters) (defBody s_law_letters) (defScope s_law_letters) .none kV dc pm an cd ct), sl⟩) (c : PySem.W.codeIn K cd "_law_letters" = true) (k : PySem.W.keepIn K (.ref f) = true) :
    ∃ fd : FuncData, Fun K "_law_letters" "_law_letters" s_law_letters f fd ∧ Binds K fd ["_law_patterns_here"] [] := ⟨_, fun_mk (st := s_law_letters) l c k, (fun_mk (st := s_law_letters) l c k).binds (ps := ["_law_patterns_here"]) fun _ _ _ _ _ _ us hl => match us, hl with | [_], _ => rfl⟩
theorem mk_law_patterns {K : PySem.W.Frag} {f : Addr} {od an : Option Addr} {sl : Array (Option Value)} {oc kV dc pm cd ct : Value} (l : K.lookup f = some ⟨oc, od, .func (PySem.W.fnOf "_law_patterns" "_law_patterns" (defArgs s_law_patterns) (defBody s_law_patterns) (defScope s_law_patterns) .none kV dc pm an cd ct), sl⟩) (c : PySem.W.codeIn K cd "_law_patterns" = true) (k : PySem.W.keepIn K (.ref f) = true) :
    ∃ fd : FuncData, Fun K "_law_patterns" "_law_patterns" s_law_patterns f fd ∧ Binds K fd ["_law_draws_here", "_law_word_here", "_law_registers", "_law_many"] [] := ⟨_, fun_mk (st := s_law_patterns) l c k, (fun_mk (st := s_law_patterns) l c k).binds (ps := ["_law_draws_here", "_law_word_here", "_law_registers", "_law_many"]) fun _ _ _ _ _ _ us hl => match us, hl with | [_, _, _, _], _ => rfl⟩
theorem mk_law_numbers_drawn {K : PySem.W.Frag} {f : Addr} {od an : Option Addr} {sl : Array (Option Value)} {oc kV dc pm cd ct : Value} (l : K.lookup f = some ⟨oc, od, .func (PySem.W.fnOf "_law_numbers_drawn" "_law_numbers_drawn" (defArgs s_law_numbers_drawn) (defBody s_law_numbers_drawn) (defScope s_law_numbers_drawn) .none kV dc pm an cd ct), sl⟩) (c : PySem.W.codeIn K cd "_law_numbers_drawn" = true) (k : PySem.W.keepIn K (.ref f) = true) :
    ∃ fd : FuncData, Fun K "_law_numbers_drawn" "_law_numbers_drawn" s_law_numbers_drawn f fd ∧ Binds K fd ["_law_draws_here", "_law_patterns_here"] [] := ⟨_, fun_mk (st := s_law_numbers_drawn) l c k, (fun_mk (st := s_law_numbers_drawn) l c k).binds (ps := ["_law_draws_here", "_law_patterns_here"]) fun _ _ _ _ _ _ us hl => match us, hl with | [_, _], _ => rfl⟩
theorem mk_law_ops {K : PySem.W.Frag} {f : Addr} {od an : Option Addr} {sl : Array (Option Value)} {oc kV dc pm cd ct : Value} (l : K.lookup f = some ⟨oc, od, .func (PySem.W.fnOf "_law_ops" "_law_ops" (defArgs s_law_ops) (defBody s_law_ops) (defScope s_law_ops) .none kV dc pm an cd ct), sl⟩) (c : PySem.W.codeIn K cd "_law_ops" = true) (k : PySem.W.keepIn K (.ref f) = true) :
    ∃ fd : FuncData, Fun K "_law_ops" "_law_ops" s_law_ops f fd ∧ Binds K fd [] [] := ⟨_, fun_mk (st := s_law_ops) l c k, (fun_mk (st := s_law_ops) l c k).binds (ps := []) fun _ _ _ _ _ _ us hl => match us, hl with | [], _ => rfl⟩
theorem mk_law_is_code {K : PySem.W.Frag} {f : Addr} {od an : Option Addr} {sl : Array (Option Value)} {oc kV dc pm cd ct : Value} (l : K.lookup f = some ⟨oc, od, .func (PySem.W.fnOf "_law_is_code" "_law_is_code" (defArgs s_law_is_code) (defBody s_law_is_code) (defScope s_law_is_code) .none kV dc pm an cd ct), sl⟩) (c : PySem.W.codeIn K cd "_law_is_code" = true) (k : PySem.W.keepIn K (.ref f) = true) :
    ∃ fd : FuncData, Fun K "_law_is_code" "_law_is_code" s_law_is_code f fd ∧ Binds K fd ["_law_thing", "_law_code"] [] := ⟨_, fun_mk (st := s_law_is_code) l c k, (fun_mk (st := s_law_is_code) l c k).binds (ps := ["_law_thing", "_law_code"]) fun _ _ _ _ _ _ us hl => match us, hl with | [_, _], _ => rfl⟩
theorem mk_law_line {K : PySem.W.Frag} {f : Addr} {od an : Option Addr} {sl : Array (Option Value)} {oc kV dc pm cd ct : Value} (l : K.lookup f = some ⟨oc, od, .func (PySem.W.fnOf "_law_line" "_law_line" (defArgs s_law_line) (defBody s_law_line) (defScope s_law_line) .none kV dc pm an cd ct), sl⟩) (c : PySem.W.codeIn K cd "_law_line" = true) (k : PySem.W.keepIn K (.ref f) = true) :
    ∃ fd : FuncData, Fun K "_law_line" "_law_line" s_law_line f fd ∧ Binds K fd ["_law_draws_here", "_law_name", "_law_regs", "_law_nums", "_law_values", "_law_word_here"] [] := ⟨_, fun_mk (st := s_law_line) l c k, (fun_mk (st := s_law_line) l c k).binds (ps := ["_law_draws_here", "_law_name", "_law_regs", "_law_nums", "_law_values", "_law_word_here"]) fun _ _ _ _ _ _ us hl => match us, hl with | [_, _, _, _, _, _], _ => rfl⟩
theorem mk_law_lines {K : PySem.W.Frag} {f : Addr} {od an : Option Addr} {sl : Array (Option Value)} {oc kV dc pm cd ct : Value} (l : K.lookup f = some ⟨oc, od, .func (PySem.W.fnOf "_law_lines" "_law_lines" (defArgs s_law_lines) (defBody s_law_lines) (defScope s_law_lines) .none kV dc pm an cd ct), sl⟩) (c : PySem.W.codeIn K cd "_law_lines" = true) (k : PySem.W.keepIn K (.ref f) = true) :
    ∃ fd : FuncData, Fun K "_law_lines" "_law_lines" s_law_lines f fd ∧ Binds K fd ["_law_draws_here", "_law_patterns_here", "_law_registers", "_law_word_here", "_law_many", "_law_reads"] [] := ⟨_, fun_mk (st := s_law_lines) l c k, (fun_mk (st := s_law_lines) l c k).binds (ps := ["_law_draws_here", "_law_patterns_here", "_law_registers", "_law_word_here", "_law_many", "_law_reads"]) fun _ _ _ _ _ _ us hl => match us, hl with | [_, _, _, _, _, _], _ => rfl⟩
theorem mk_law_touched {K : PySem.W.Frag} {f : Addr} {od an : Option Addr} {sl : Array (Option Value)} {oc kV dc pm cd ct : Value} (l : K.lookup f = some ⟨oc, od, .func (PySem.W.fnOf "_law_touched" "_law_touched" (defArgs s_law_touched) (defBody s_law_touched) (defScope s_law_touched) .none kV dc pm an cd ct), sl⟩) (c : PySem.W.codeIn K cd "_law_touched" = true) (k : PySem.W.keepIn K (.ref f) = true) :
    ∃ fd : FuncData, Fun K "_law_touched" "_law_touched" s_law_touched f fd ∧ Binds K fd ["_law_row", "_law_numbers"] [] := ⟨_, fun_mk (st := s_law_touched) l c k, (fun_mk (st := s_law_touched) l c k).binds (ps := ["_law_row", "_law_numbers"]) fun _ _ _ _ _ _ us hl => match us, hl with | [_, _], _ => rfl⟩
theorem mk_law_refused {K : PySem.W.Frag} {f : Addr} {od an : Option Addr} {sl : Array (Option Value)} {oc kV dc pm cd ct : Value} (l : K.lookup f = some ⟨oc, od, .func (PySem.W.fnOf "_law_refused" "_law_refused" (defArgs s_law_refused) (defBody s_law_refused) (defScope s_law_refused) .none kV dc pm an cd ct), sl⟩) (c : PySem.W.codeIn K cd "_law_refused" = true) (k : PySem.W.keepIn K (.ref f) = true) :
    ∃ fd : FuncData, Fun K "_law_refused" "_law_refused" s_law_refused f fd ∧ Binds K fd ["_law_book", "_law_thing"] [] := ⟨_, fun_mk (st := s_law_refused) l c k, (fun_mk (st := s_law_refused) l c k).binds (ps := ["_law_book", "_law_thing"]) fun _ _ _ _ _ _ us hl => match us, hl with | [_, _], _ => rfl⟩
theorem mk_law_same_run {K : PySem.W.Frag} {f : Addr} {od an : Option Addr} {sl : Array (Option Value)} {oc kV dc pm cd ct : Value} (l : K.lookup f = some ⟨oc, od, .func (PySem.W.fnOf "_law_same_run" "_law_same_run" (defArgs s_law_same_run) (defBody s_law_same_run) (defScope s_law_same_run) .none kV dc pm an cd ct), sl⟩) (c : PySem.W.codeIn K cd "_law_same_run" = true) (k : PySem.W.keepIn K (.ref f) = true) :
    ∃ fd : FuncData, Fun K "_law_same_run" "_law_same_run" s_law_same_run f fd ∧ Binds K fd ["_law_one", "_law_other", "_law_q", "_law_before", "_law_after"] [] := ⟨_, fun_mk (st := s_law_same_run) l c k, (fun_mk (st := s_law_same_run) l c k).binds (ps := ["_law_one", "_law_other", "_law_q", "_law_before", "_law_after"]) fun _ _ _ _ _ _ us hl => match us, hl with | [_, _, _, _, _], _ => rfl⟩
theorem mk_law_one_word {K : PySem.W.Frag} {f : Addr} {od an : Option Addr} {sl : Array (Option Value)} {oc kV dc pm cd ct : Value} (l : K.lookup f = some ⟨oc, od, .func (PySem.W.fnOf "_law_one_word" "_law_one_word" (defArgs s_law_one_word) (defBody s_law_one_word) (defScope s_law_one_word) .none kV dc pm an cd ct), sl⟩) (c : PySem.W.codeIn K cd "_law_one_word" = true) (k : PySem.W.keepIn K (.ref f) = true) :
    ∃ fd : FuncData, Fun K "_law_one_word" "_law_one_word" s_law_one_word f fd ∧ Binds K fd ["_law_draws_here", "_law_book", "_law_row", "_law_numbers", "_law_word_here", "_law_registers"] [] := ⟨_, fun_mk (st := s_law_one_word) l c k, (fun_mk (st := s_law_one_word) l c k).binds (ps := ["_law_draws_here", "_law_book", "_law_row", "_law_numbers", "_law_word_here", "_law_registers"]) fun _ _ _ _ _ _ us hl => match us, hl with | [_, _, _, _, _, _], _ => rfl⟩
theorem mk_law {K : PySem.W.Frag} {f : Addr} {od an : Option Addr} {sl : Array (Option Value)} {oc kV dc pm cd ct : Value} (l : K.lookup f = some ⟨oc, od, .func (PySem.W.fnOf "law" "law" (defArgs s_law) (defBody s_law) (defScope s_law) .none kV dc pm an cd ct), sl⟩) (c : PySem.W.codeIn K cd "law" = true) (k : PySem.W.keepIn K (.ref f) = true) :
    ∃ fd : FuncData, Fun K "law" "law" s_law f fd ∧ Binds K fd ["_law_script"] [] := ⟨_, fun_mk (st := s_law) l c k, (fun_mk (st := s_law) l c k).binds (ps := ["_law_script"]) fun _ _ _ _ _ _ us hl => match us, hl with | [_], _ => rfl⟩
theorem all_mk {w : World} {K : PySem.W.Frag} {h : Heap} {mg : Str → Option Value} {f_BadWords_init f_BadSource_init f_is_int f_is_row f_is_word f_check_int f_letters_of f_fixed_bits f_letters_for f_written_line f_is_name f_first_of f_is_pattern f_are_patterns f_first_wrong f_Form_init f_Grammar_init f_checked_forms f_written f_Book_init f_Grammar_is_line f_Grammar_is_entry f_ones f_check_length f_check_entries f_check_words f_op_word f_Book_form_named f_form_of f_letters_told f_Answers_init f_Answers_answer f_answer_at f_Doing_init f_Doing_told f_Doing_ask f_Doing_value f_Doing_stopped f_Doing_finished f_handed_over f_check_answers f_run_code f_named f_law_draws f_law_take f_law_word f_law_is_int f_law_letters f_law_patterns f_law_numbers_drawn f_law_ops f_law_is_code f_law_line f_law_lines f_law_touched f_law_refused f_law_same_run f_law_one_word f_law C_Form C_Grammar C_Book C_Doing C_Answers C_BadWords C_BadSource a_EFFECTS a_VALUES a_ASKING a_ENTRIES a_REFUSED : Addr} {t_LETTERS t_REGISTER_LETTERS t_NUMBER_LETTERS t_MOST_FORMS t_MOST_PATTERNS t_MOST_LINES t_SMALL_LETTERS : Tok} (X : K.In h) (G : h.Ns mainGlobals mg)
    (xa_BadWords : PySem.W.nsIn K mainGlobals "BadWords" = some (some (.ref C_BadWords)))
    (ii_BadWords : PySem.W.findIn K (.ref C_BadWords) "__init__" = some (some (.ref f_BadWords_init)))
    (it_BadWords : PySem.W.typeIn K (.ref f_BadWords_init) = some (.type "function"))
    (m_BadWords_init : ∃ fd : FuncData, Fun K "__init__" "BadWords.__init__" s_BadWords_init f_BadWords_init fd ∧ Binds K fd ["self", "at"] [])
    (xa_BadSource : PySem.W.nsIn K mainGlobals "BadSource" = some (some (.ref C_BadSource)))
    (ii_BadSource : PySem.W.findIn K (.ref C_BadSource) "__init__" = some (some (.ref f_BadSource_init)))
    (it_BadSource : PySem.W.typeIn K (.ref f_BadSource_init) = some (.type "function"))
    (m_BadSource_init : ∃ fd : FuncData, Fun K "__init__" "BadSource.__init__" s_BadSource_init f_BadSource_init fd ∧ Binds K fd ["self", "number"] [])
    (a_fn_is_int : PySem.W.nsIn K mainGlobals "is_int" = some (some (.ref f_is_int)))
    (m_is_int : ∃ fd : FuncData, Fun K "is_int" "is_int" s_is_int f_is_int fd ∧ Binds K fd ["value"] [])
    (a_fn_is_row : PySem.W.nsIn K mainGlobals "is_row" = some (some (.ref f_is_row)))
    (m_is_row : ∃ fd : FuncData, Fun K "is_row" "is_row" s_is_row f_is_row fd ∧ Binds K fd ["value"] [])
    (a_fn_is_word : PySem.W.nsIn K mainGlobals "is_word" = some (some (.ref f_is_word)))
    (m_is_word : ∃ fd : FuncData, Fun K "is_word" "is_word" s_is_word f_is_word fd ∧ Binds K fd ["value", "width"] [])
    (a_fn_check_int : PySem.W.nsIn K mainGlobals "check_int" = some (some (.ref f_check_int)))
    (m_check_int : ∃ fd : FuncData, Fun K "check_int" "check_int" s_check_int f_check_int fd ∧ Binds K fd ["value", "low", "high", "name"] [])
    (a_fn_letters_of : PySem.W.nsIn K mainGlobals "letters_of" = some (some (.ref f_letters_of)))
    (m_letters_of : ∃ fd : FuncData, Fun K "letters_of" "letters_of" s_letters_of f_letters_of fd ∧ Binds K fd ["patterns"] [])
    (a_fn_fixed_bits : PySem.W.nsIn K mainGlobals "fixed_bits" = some (some (.ref f_fixed_bits)))
    (m_fixed_bits : ∃ fd : FuncData, Fun K "fixed_bits" "fixed_bits" s_fixed_bits f_fixed_bits fd ∧ Binds K fd ["pattern"] [])
    (a_fn_letters_for : PySem.W.nsIn K mainGlobals "letters_for" = some (some (.ref f_letters_for)))
    (m_letters_for : ∃ fd : FuncData, Fun K "letters_for" "letters_for" s_letters_for f_letters_for fd ∧ Binds K fd ["sign"] [])
    (a_fn_written_line : PySem.W.nsIn K mainGlobals "written_line" = some (some (.ref f_written_line)))
    (m_written_line : ∃ fd : FuncData, Fun K "written_line" "written_line" s_written_line f_written_line fd ∧ Binds K fd ["entries"] [])
    (a_fn_is_name : PySem.W.nsIn K mainGlobals "is_name" = some (some (.ref f_is_name)))
    (m_is_name : ∃ fd : FuncData, Fun K "is_name" "is_name" s_is_name f_is_name fd ∧ Binds K fd ["name"] [])
    (a_fn_first_of : PySem.W.nsIn K mainGlobals "_first_of" = some (some (.ref f_first_of)))
    (m_first_of : ∃ fd : FuncData, Fun K "_first_of" "_first_of" s_first_of f_first_of fd ∧ Binds K fd ["lines", "names"] [])
    (a_fn_is_pattern : PySem.W.nsIn K mainGlobals "_is_pattern" = some (some (.ref f_is_pattern)))
    (m_is_pattern : ∃ fd : FuncData, Fun K "_is_pattern" "_is_pattern" s_is_pattern f_is_pattern fd ∧ Binds K fd ["word", "pattern"] [])
    (a_fn_are_patterns : PySem.W.nsIn K mainGlobals "_are_patterns" = some (some (.ref f_are_patterns)))
    (m_are_patterns : ∃ fd : FuncData, Fun K "_are_patterns" "_are_patterns" s_are_patterns f_are_patterns fd ∧ Binds K fd ["word", "registers", "patterns"] [])
    (a_fn_first_wrong : PySem.W.nsIn K mainGlobals "_first_wrong" = some (some (.ref f_first_wrong)))
    (m_first_wrong : ∃ fd : FuncData, Fun K "_first_wrong" "_first_wrong" s_first_wrong f_first_wrong fd ∧ Binds K fd ["grammar", "lines"] [])
    (a_fn_Form_init : PySem.W.findIn K (.ref C_Form) "__init__" = some (some (.ref f_Form_init)))
    (i_Form_init : PySem.W.isFn K (.ref f_Form_init) = true)
    (kp_Form_init : PySem.W.keepIn K (.ref f_Form_init) = true)
    (m_Form_init : ∃ fd : FuncData, Fun K "__init__" "Form.__init__" s_Form_init f_Form_init fd ∧ Binds K fd ["self", "name", "patterns", "lines"] [])
    (a_fn_Grammar_init : PySem.W.findIn K (.ref C_Grammar) "__init__" = some (some (.ref f_Grammar_init)))
    (i_Grammar_init : PySem.W.isFn K (.ref f_Grammar_init) = true)
    (kp_Grammar_init : PySem.W.keepIn K (.ref f_Grammar_init) = true)
    (m_Grammar_init : ∃ fd : FuncData, Fun K "__init__" "Grammar.__init__" s_Grammar_init f_Grammar_init fd ∧ Binds K fd ["self", "word", "registers", "letters"] [])
    (a_fn_checked_forms : PySem.W.nsIn K mainGlobals "_checked_forms" = some (some (.ref f_checked_forms)))
    (m_checked_forms : ∃ fd : FuncData, Fun K "_checked_forms" "_checked_forms" s_checked_forms f_checked_forms fd ∧ Binds K fd ["word", "registers", "forms"] [])
    (a_fn_written : PySem.W.nsIn K mainGlobals "_written" = some (some (.ref f_written)))
    (m_written : ∃ fd : FuncData, Fun K "_written" "_written" s_written f_written fd ∧ Binds K fd ["book"] [])
    (a_fn_Book_init : PySem.W.findIn K (.ref C_Book) "__init__" = some (some (.ref f_Book_init)))
    (i_Book_init : PySem.W.isFn K (.ref f_Book_init) = true)
    (kp_Book_init : PySem.W.keepIn K (.ref f_Book_init) = true)
    (m_Book_init : ∃ fd : FuncData, Fun K "__init__" "Book.__init__" s_Book_init f_Book_init fd ∧ Binds K fd ["self", "word", "registers", "forms"] [])
    (a_fn_Grammar_is_line : PySem.W.findIn K (.ref C_Grammar) "is_line" = some (some (.ref f_Grammar_is_line)))
    (i_Grammar_is_line : PySem.W.isFn K (.ref f_Grammar_is_line) = true)
    (kp_Grammar_is_line : PySem.W.keepIn K (.ref f_Grammar_is_line) = true)
    (m_Grammar_is_line : ∃ fd : FuncData, Fun K "is_line" "Grammar.is_line" s_Grammar_is_line f_Grammar_is_line fd ∧ Binds K fd ["self", "line", "values"] [])
    (a_fn_Grammar_is_entry : PySem.W.findIn K (.ref C_Grammar) "is_entry" = some (some (.ref f_Grammar_is_entry)))
    (i_Grammar_is_entry : PySem.W.isFn K (.ref f_Grammar_is_entry) = true)
    (kp_Grammar_is_entry : PySem.W.keepIn K (.ref f_Grammar_is_entry) = true)
    (m_Grammar_is_entry : ∃ fd : FuncData, Fun K "is_entry" "Grammar.is_entry" s_Grammar_is_entry f_Grammar_is_entry fd ∧ Binds K fd ["self", "sign", "entry", "values"] [])
    (a_fn_ones : PySem.W.nsIn K mainGlobals "ones" = some (some (.ref f_ones)))
    (m_ones : ∃ fd : FuncData, Fun K "ones" "ones" s_ones f_ones fd ∧ Binds K fd ["width"] [])
    (a_fn_check_length : PySem.W.nsIn K mainGlobals "check_length" = some (some (.ref f_check_length)))
    (m_check_length : ∃ fd : FuncData, Fun K "check_length" "check_length" s_check_length f_check_length fd ∧ Binds K fd ["row", "many"] [])
    (a_fn_check_entries : PySem.W.nsIn K mainGlobals "check_entries" = some (some (.ref f_check_entries)))
    (m_check_entries : ∃ fd : FuncData, Fun K "check_entries" "check_entries" s_check_entries f_check_entries fd ∧ Binds K fd ["row", "most"] [])
    (a_fn_check_words : PySem.W.nsIn K mainGlobals "check_words" = some (some (.ref f_check_words)))
    (m_check_words : ∃ fd : FuncData, Fun K "check_words" "check_words" s_check_words f_check_words fd ∧ Binds K fd ["row", "width", "many"] [])
    (a_fn_op_word : PySem.W.nsIn K mainGlobals "op_word" = some (some (.ref f_op_word)))
    (m_op_word : ∃ fd : FuncData, Fun K "op_word" "op_word" s_op_word f_op_word fd ∧ Binds K fd ["name", "one", "other", "width"] [])
    (a_fn_Book_form_named : PySem.W.findIn K (.ref C_Book) "form_named" = some (some (.ref f_Book_form_named)))
    (i_Book_form_named : PySem.W.isFn K (.ref f_Book_form_named) = true)
    (kp_Book_form_named : PySem.W.keepIn K (.ref f_Book_form_named) = true)
    (m_Book_form_named : ∃ fd : FuncData, Fun K "form_named" "Book.form_named" s_Book_form_named f_Book_form_named fd ∧ Binds K fd ["self", "name"] [])
    (a_fn_form_of : PySem.W.nsIn K mainGlobals "form_of" = some (some (.ref f_form_of)))
    (m_form_of : ∃ fd : FuncData, Fun K "form_of" "form_of" s_form_of f_form_of fd ∧ Binds K fd ["book", "instruction"] [])
    (a_fn_letters_told : PySem.W.nsIn K mainGlobals "letters_told" = some (some (.ref f_letters_told)))
    (m_letters_told : ∃ fd : FuncData, Fun K "letters_told" "letters_told" s_letters_told f_letters_told fd ∧ Binds K fd ["form", "numbers"] [])
    (a_fn_Answers_init : PySem.W.findIn K (.ref C_Answers) "__init__" = some (some (.ref f_Answers_init)))
    (i_Answers_init : PySem.W.isFn K (.ref f_Answers_init) = true)
    (kp_Answers_init : PySem.W.keepIn K (.ref f_Answers_init) = true)
    (m_Answers_init : ∃ fd : FuncData, Fun K "__init__" "Answers.__init__" s_Answers_init f_Answers_init fd ∧ Binds K fd ["self", "answers"] [])
    (a_fn_Answers_answer : PySem.W.findIn K (.ref C_Answers) "answer" = some (some (.ref f_Answers_answer)))
    (i_Answers_answer : PySem.W.isFn K (.ref f_Answers_answer) = true)
    (kp_Answers_answer : PySem.W.keepIn K (.ref f_Answers_answer) = true)
    (m_Answers_answer : ∃ fd : FuncData, Fun K "answer" "Answers.answer" s_Answers_answer f_Answers_answer fd ∧ Binds K fd ["self", "ask"] [])
    (a_fn_answer_at : PySem.W.nsIn K mainGlobals "answer_at" = some (some (.ref f_answer_at)))
    (m_answer_at : ∃ fd : FuncData, Fun K "answer_at" "answer_at" s_answer_at f_answer_at fd ∧ Binds K fd ["answers", "at"] [])
    (a_fn_Doing_init : PySem.W.findIn K (.ref C_Doing) "__init__" = some (some (.ref f_Doing_init)))
    (i_Doing_init : PySem.W.isFn K (.ref f_Doing_init) = true)
    (kp_Doing_init : PySem.W.keepIn K (.ref f_Doing_init) = true)
    (m_Doing_init : ∃ fd : FuncData, Fun K "__init__" "Doing.__init__" s_Doing_init f_Doing_init fd ∧ Binds K fd ["self", "book", "instruction", "place", "regs"] [])
    (a_fn_Doing_told : PySem.W.findIn K (.ref C_Doing) "told" = some (some (.ref f_Doing_told)))
    (i_Doing_told : PySem.W.isFn K (.ref f_Doing_told) = true)
    (kp_Doing_told : PySem.W.keepIn K (.ref f_Doing_told) = true)
    (m_Doing_told : ∃ fd : FuncData, Fun K "told" "Doing.told" s_Doing_told f_Doing_told fd ∧ Binds K fd ["self", "entry"] [])
    (a_fn_Doing_ask : PySem.W.findIn K (.ref C_Doing) "ask" = some (some (.ref f_Doing_ask)))
    (i_Doing_ask : PySem.W.isFn K (.ref f_Doing_ask) = true)
    (kp_Doing_ask : PySem.W.keepIn K (.ref f_Doing_ask) = true)
    (m_Doing_ask : ∃ fd : FuncData, Fun K "ask" "Doing.ask" s_Doing_ask f_Doing_ask fd ∧ Binds K fd ["self", "line"] [])
    (a_fn_Doing_value : PySem.W.findIn K (.ref C_Doing) "value" = some (some (.ref f_Doing_value)))
    (i_Doing_value : PySem.W.isFn K (.ref f_Doing_value) = true)
    (kp_Doing_value : PySem.W.keepIn K (.ref f_Doing_value) = true)
    (m_Doing_value : ∃ fd : FuncData, Fun K "value" "Doing.value" s_Doing_value f_Doing_value fd ∧ Binds K fd ["self", "line"] [])
    (a_fn_Doing_stopped : PySem.W.findIn K (.ref C_Doing) "stopped" = some (some (.ref f_Doing_stopped)))
    (i_Doing_stopped : PySem.W.isFn K (.ref f_Doing_stopped) = true)
    (kp_Doing_stopped : PySem.W.keepIn K (.ref f_Doing_stopped) = true)
    (m_Doing_stopped : ∃ fd : FuncData, Fun K "stopped" "Doing.stopped" s_Doing_stopped f_Doing_stopped fd ∧ Binds K fd ["self", "cause"] [])
    (a_fn_Doing_finished : PySem.W.findIn K (.ref C_Doing) "finished" = some (some (.ref f_Doing_finished)))
    (i_Doing_finished : PySem.W.isFn K (.ref f_Doing_finished) = true)
    (kp_Doing_finished : PySem.W.keepIn K (.ref f_Doing_finished) = true)
    (m_Doing_finished : ∃ fd : FuncData, Fun K "finished" "Doing.finished" s_Doing_finished f_Doing_finished fd ∧ Binds K fd ["self"] [])
    (a_fn_handed_over : PySem.W.nsIn K mainGlobals "handed_over" = some (some (.ref f_handed_over)))
    (m_handed_over : ∃ fd : FuncData, Fun K "handed_over" "handed_over" s_handed_over f_handed_over fd ∧ Binds K fd ["book", "instruction", "place", "regs", "asker"] [])
    (a_fn_check_answers : PySem.W.nsIn K mainGlobals "check_answers" = some (some (.ref f_check_answers)))
    (m_check_answers : ∃ fd : FuncData, Fun K "check_answers" "check_answers" s_check_answers f_check_answers fd ∧ Binds K fd ["word", "answers"] [])
    (a_fn_run_code : PySem.W.nsIn K mainGlobals "run_code" = some (some (.ref f_run_code)))
    (m_run_code : ∃ fd : FuncData, Fun K "run_code" "run_code" s_run_code f_run_code fd ∧ Binds K fd ["book", "instruction", "place", "regs", "answers"] [])
    (a_fn_named : PySem.W.nsIn K mainGlobals "named" = some (some (.ref f_named)))
    (m_named : ∃ fd : FuncData, Fun K "named" "named" s_named f_named fd ∧ Binds K fd ["book", "instruction"] [])
    (a_fn_law_draws : PySem.W.nsIn K mainGlobals "_law_draws" = some (some (.ref f_law_draws)))
    (m_law_draws : ∃ fd : FuncData, Fun K "_law_draws" "_law_draws" s_law_draws f_law_draws fd ∧ Binds K fd ["_law_script"] [])
    (a_fn_law_take : PySem.W.nsIn K mainGlobals "_law_take" = some (some (.ref f_law_take)))
    (m_law_take : ∃ fd : FuncData, Fun K "_law_take" "_law_take" s_law_take f_law_take fd ∧ Binds K fd ["_law_draws_here", "_law_many"] [])
    (a_fn_law_word : PySem.W.nsIn K mainGlobals "_law_word" = some (some (.ref f_law_word)))
    (m_law_word : ∃ fd : FuncData, Fun K "_law_word" "_law_word" s_law_word f_law_word fd ∧ Binds K fd ["_law_draws_here", "_law_width"] [])
    (a_fn_law_is_int : PySem.W.nsIn K mainGlobals "_law_is_int" = some (some (.ref f_law_is_int)))
    (m_law_is_int : ∃ fd : FuncData, Fun K "_law_is_int" "_law_is_int" s_law_is_int f_law_is_int fd ∧ Binds K fd ["_law_thing"] [])
    (a_fn_law_letters : PySem.W.nsIn K mainGlobals "_law_letters" = some (some (.ref f_law_letters)))
    (m_law_letters : ∃ fd : FuncData, Fun K "_law_letters" "_law_letters" s_law_letters f_law_letters fd ∧ Binds K fd ["_law_patterns_here"] [])
    (a_fn_law_patterns : PySem.W.nsIn K mainGlobals "_law_patterns" = some (some (.ref f_law_patterns)))
    (m_law_patterns : ∃ fd : FuncData, Fun K "_law_patterns" "_law_patterns" s_law_patterns f_law_patterns fd ∧ Binds K fd ["_law_draws_here", "_law_word_here", "_law_registers", "_law_many"] [])
    (a_fn_law_numbers_drawn : PySem.W.nsIn K mainGlobals "_law_numbers_drawn" = some (some (.ref f_law_numbers_drawn)))
    (m_law_numbers_drawn : ∃ fd : FuncData, Fun K "_law_numbers_drawn" "_law_numbers_drawn" s_law_numbers_drawn f_law_numbers_drawn fd ∧ Binds K fd ["_law_draws_here", "_law_patterns_here"] [])
    (a_fn_law_ops : PySem.W.nsIn K mainGlobals "_law_ops" = some (some (.ref f_law_ops)))
    (m_law_ops : ∃ fd : FuncData, Fun K "_law_ops" "_law_ops" s_law_ops f_law_ops fd ∧ Binds K fd [] [])
    (a_fn_law_is_code : PySem.W.nsIn K mainGlobals "_law_is_code" = some (some (.ref f_law_is_code)))
    (m_law_is_code : ∃ fd : FuncData, Fun K "_law_is_code" "_law_is_code" s_law_is_code f_law_is_code fd ∧ Binds K fd ["_law_thing", "_law_code"] [])
    (a_fn_law_line : PySem.W.nsIn K mainGlobals "_law_line" = some (some (.ref f_law_line)))
    (m_law_line : ∃ fd : FuncData, Fun K "_law_line" "_law_line" s_law_line f_law_line fd ∧ Binds K fd ["_law_draws_here", "_law_name", "_law_regs", "_law_nums", "_law_values", "_law_word_here"] [])
    (a_fn_law_lines : PySem.W.nsIn K mainGlobals "_law_lines" = some (some (.ref f_law_lines)))
    (m_law_lines : ∃ fd : FuncData, Fun K "_law_lines" "_law_lines" s_law_lines f_law_lines fd ∧ Binds K fd ["_law_draws_here", "_law_patterns_here", "_law_registers", "_law_word_here", "_law_many", "_law_reads"] [])
    (a_fn_law_touched : PySem.W.nsIn K mainGlobals "_law_touched" = some (some (.ref f_law_touched)))
    (m_law_touched : ∃ fd : FuncData, Fun K "_law_touched" "_law_touched" s_law_touched f_law_touched fd ∧ Binds K fd ["_law_row", "_law_numbers"] [])
    (a_fn_law_refused : PySem.W.nsIn K mainGlobals "_law_refused" = some (some (.ref f_law_refused)))
    (m_law_refused : ∃ fd : FuncData, Fun K "_law_refused" "_law_refused" s_law_refused f_law_refused fd ∧ Binds K fd ["_law_book", "_law_thing"] [])
    (a_fn_law_same_run : PySem.W.nsIn K mainGlobals "_law_same_run" = some (some (.ref f_law_same_run)))
    (m_law_same_run : ∃ fd : FuncData, Fun K "_law_same_run" "_law_same_run" s_law_same_run f_law_same_run fd ∧ Binds K fd ["_law_one", "_law_other", "_law_q", "_law_before", "_law_after"] [])
    (a_fn_law_one_word : PySem.W.nsIn K mainGlobals "_law_one_word" = some (some (.ref f_law_one_word)))
    (m_law_one_word : ∃ fd : FuncData, Fun K "_law_one_word" "_law_one_word" s_law_one_word f_law_one_word fd ∧ Binds K fd ["_law_draws_here", "_law_book", "_law_row", "_law_numbers", "_law_word_here", "_law_registers"] [])
    (a_fn_law : PySem.W.nsIn K mainGlobals "law" = some (some (.ref f_law)))
    {od an : Option Addr} {sl : Array (Option Value)} {oc kV dc pm cd ct : Value}
    (l_law : K.lookup f_law = some ⟨oc, od, .func (PySem.W.fnOf "law" "law" (defArgs s_law) (defBody s_law) (defScope s_law) .none kV dc pm an cd ct), sl⟩)
    (c_law : PySem.W.codeIn K cd "law" = true)
    (kp_law : PySem.W.keepIn K (.ref f_law) = true)
    (aC_Form : PySem.W.nsIn K mainGlobals "Form" = some (some (.ref C_Form)))
    (pg_Form : PySem.W.plainGet K C_Form Str.empty = true)
    (hd_Form : PySem.W.hasDictIn K C_Form = true)
    (po_Form : PySem.W.plainOver K C_Form = true)
    (sa_Form : PySem.W.findIn K (.ref C_Form) "__setattr__" = some (some (.builtin "object.__setattr__")))
    (mkI_Form : PySem.W.makesIn K C_Form = true)
    (kc_Form : PySem.W.keepIn K (.ref C_Form) = true)
    (nA_Form_name : PySem.W.findIn K (.ref C_Form) "name" = some none)
    (nA_Form_patterns : PySem.W.findIn K (.ref C_Form) "patterns" = some none)
    (nA_Form_lines : PySem.W.findIn K (.ref C_Form) "lines" = some none)
    (nA_Form_size : PySem.W.findIn K (.ref C_Form) "size" = some none)
    (nA_Form_letters : PySem.W.findIn K (.ref C_Form) "letters" = some none)
    (nA_Form_effect : PySem.W.findIn K (.ref C_Form) "effect" = some none)
    (nA_Form_goto : PySem.W.findIn K (.ref C_Form) "goto" = some none)
    (nA_Form_fixed : PySem.W.findIn K (.ref C_Form) "fixed" = some none)
    (aC_Grammar : PySem.W.nsIn K mainGlobals "Grammar" = some (some (.ref C_Grammar)))
    (pg_Grammar : PySem.W.plainGet K C_Grammar Str.empty = true)
    (hd_Grammar : PySem.W.hasDictIn K C_Grammar = true)
    (po_Grammar : PySem.W.plainOver K C_Grammar = true)
    (sa_Grammar : PySem.W.findIn K (.ref C_Grammar) "__setattr__" = some (some (.builtin "object.__setattr__")))
    (mkI_Grammar : PySem.W.makesIn K C_Grammar = true)
    (kc_Grammar : PySem.W.keepIn K (.ref C_Grammar) = true)
    (nA_Grammar_letters : PySem.W.findIn K (.ref C_Grammar) "letters" = some none)
    (nA_Grammar_numbers : PySem.W.findIn K (.ref C_Grammar) "numbers" = some none)
    (aC_Book : PySem.W.nsIn K mainGlobals "Book" = some (some (.ref C_Book)))
    (pg_Book : PySem.W.plainGet K C_Book Str.empty = true)
    (hd_Book : PySem.W.hasDictIn K C_Book = true)
    (po_Book : PySem.W.plainOver K C_Book = true)
    (sa_Book : PySem.W.findIn K (.ref C_Book) "__setattr__" = some (some (.builtin "object.__setattr__")))
    (mkI_Book : PySem.W.makesIn K C_Book = true)
    (kc_Book : PySem.W.keepIn K (.ref C_Book) = true)
    (nA_Book_word : PySem.W.findIn K (.ref C_Book) "word" = some none)
    (nA_Book_registers : PySem.W.findIn K (.ref C_Book) "registers" = some none)
    (nA_Book_forms : PySem.W.findIn K (.ref C_Book) "forms" = some none)
    (nA_Book__named : PySem.W.findIn K (.ref C_Book) "_named" = some none)
    (nA_Book__text : PySem.W.findIn K (.ref C_Book) "_text" = some none)
    (aC_Doing : PySem.W.nsIn K mainGlobals "Doing" = some (some (.ref C_Doing)))
    (pg_Doing : PySem.W.plainGet K C_Doing Str.empty = true)
    (hd_Doing : PySem.W.hasDictIn K C_Doing = true)
    (po_Doing : PySem.W.plainOver K C_Doing = true)
    (sa_Doing : PySem.W.findIn K (.ref C_Doing) "__setattr__" = some (some (.builtin "object.__setattr__")))
    (mkI_Doing : PySem.W.makesIn K C_Doing = true)
    (kc_Doing : PySem.W.keepIn K (.ref C_Doing) = true)
    (nA_Doing_form : PySem.W.findIn K (.ref C_Doing) "form" = some none)
    (nA_Doing_word : PySem.W.findIn K (.ref C_Doing) "word" = some none)
    (nA_Doing_letters : PySem.W.findIn K (.ref C_Doing) "letters" = some none)
    (nA_Doing_place : PySem.W.findIn K (.ref C_Doing) "place" = some none)
    (nA_Doing_after : PySem.W.findIn K (.ref C_Doing) "after" = some none)
    (nA_Doing_regs : PySem.W.findIn K (.ref C_Doing) "regs" = some none)
    (nA_Doing_words : PySem.W.findIn K (.ref C_Doing) "words" = some none)
    (aC_Answers : PySem.W.nsIn K mainGlobals "Answers" = some (some (.ref C_Answers)))
    (pg_Answers : PySem.W.plainGet K C_Answers Str.empty = true)
    (hd_Answers : PySem.W.hasDictIn K C_Answers = true)
    (po_Answers : PySem.W.plainOver K C_Answers = true)
    (sa_Answers : PySem.W.findIn K (.ref C_Answers) "__setattr__" = some (some (.builtin "object.__setattr__")))
    (mkI_Answers : PySem.W.makesIn K C_Answers = true)
    (kc_Answers : PySem.W.keepIn K (.ref C_Answers) = true)
    (nA_Answers_answers : PySem.W.findIn K (.ref C_Answers) "answers" = some none)
    (nA_Answers_asks : PySem.W.findIn K (.ref C_Answers) "asks" = some none)
    (ct_LETTERS : PySem.W.nsIn K mainGlobals "LETTERS" = some (some (.str "abcmn" t_LETTERS)))
    (ct_REGISTER_LETTERS : PySem.W.nsIn K mainGlobals "REGISTER_LETTERS" = some (some (.str "abc" t_REGISTER_LETTERS)))
    (ct_NUMBER_LETTERS : PySem.W.nsIn K mainGlobals "NUMBER_LETTERS" = some (some (.str "mn" t_NUMBER_LETTERS)))
    (ct_MOST_FORMS : PySem.W.nsIn K mainGlobals "MOST_FORMS" = some (some (.int 32 t_MOST_FORMS)))
    (ct_MOST_PATTERNS : PySem.W.nsIn K mainGlobals "MOST_PATTERNS" = some (some (.int 3 t_MOST_PATTERNS)))
    (ct_MOST_LINES : PySem.W.nsIn K mainGlobals "MOST_LINES" = some (some (.int 12 t_MOST_LINES)))
    (ct_SMALL_LETTERS : PySem.W.nsIn K mainGlobals "SMALL_LETTERS" = some (some (.str "abcdefghijklmnopqrstuvwxyz" t_SMALL_LETTERS)))
    (ca_EFFECTS : PySem.W.nsIn K mainGlobals "EFFECTS" = some (some (.ref a_EFFECTS)))
    (cv_EFFECTS : ∀ H, SqT K H a_EFFECTS [.str "write", .str "in", .str "out"])
    (ca_VALUES : PySem.W.nsIn K mainGlobals "VALUES" = some (some (.ref a_VALUES)))
    (cv_VALUES : ∀ H, SqT K H a_VALUES [.str "get", .str "num", .str "here", .str "next", .str "add", .str "sub", .str "and", .str "or", .str "xor", .str "less", .str "same", .str "read", .str "in"])
    (ca_ASKING : PySem.W.nsIn K mainGlobals "ASKING" = some (some (.ref a_ASKING)))
    (cv_ASKING : ∀ H, SqT K H a_ASKING [.str "read", .str "write", .str "in", .str "out"])
    (ca_ENTRIES : PySem.W.nsIn K mainGlobals "ENTRIES" = some (some (.ref a_ENTRIES)))
    (kt_ENTRIES : KT K w a_ENTRIES [("get", .str "r"), ("num", .str "v"), ("here", .str ""), ("next", .str ""), ("add", .str "ii"), ("sub", .str "ii"), ("and", .str "ii"), ("or", .str "ii"), ("xor", .str "ii"), ("less", .str "ii"), ("same", .str "ii"), ("read", .str "i"), ("in", .str "p"), ("must", .str "ic"), ("write", .str "ii"), ("out", .str "qi"), ("put", .str "ri"), ("goto", .str "i")])
    (ca_REFUSED : PySem.W.nsIn K mainGlobals "REFUSED" = some (some (.ref a_REFUSED)))
    (kt_REFUSED : KT K w a_REFUSED [("read", .int 10), ("write", .int 11)])
    (z_len : PySem.W.nsIn K mainGlobals "len" = some none)
    (z_list : PySem.W.nsIn K mainGlobals "list" = some none)
    (z_tuple : PySem.W.nsIn K mainGlobals "tuple" = some none)
    (z_int : PySem.W.nsIn K mainGlobals "int" = some none)
    (z_str : PySem.W.nsIn K mainGlobals "str" = some none)
    (z_min : PySem.W.nsIn K mainGlobals "min" = some none)
    (z_range : PySem.W.nsIn K mainGlobals "range" = some none)
    (z_isinstance : PySem.W.nsIn K mainGlobals "isinstance" = some none)
    (z_bool : PySem.W.nsIn K mainGlobals "bool" = some none)
    (z_sum : PySem.W.nsIn K mainGlobals "sum" = some none)
    (z_all : PySem.W.nsIn K mainGlobals "all" = some none)
    (z_any : PySem.W.nsIn K mainGlobals "any" = some none)
    (z_enumerate : PySem.W.nsIn K mainGlobals "enumerate" = some none)
    (z_zip : PySem.W.nsIn K mainGlobals "zip" = some none)
    (z_reversed : PySem.W.nsIn K mainGlobals "reversed" = some none)
    (z_sorted : PySem.W.nsIn K mainGlobals "sorted" = some none)
    (xe_BadWords : PySem.W.excInitIn K C_BadWords [.type "Exception", .type "BaseException", .type "object"] "Exception.__new__" = true)
    (xsa_BadWords : PySem.W.findIn K (.ref C_BadWords) "__setattr__" = some (some (.builtin "object.__setattr__")))
    (xk_BadWords : PySem.W.keepIn K (.ref C_BadWords) = true)
    (xb_BadWords : PySem.W.subIn K (.ref C_BadWords) (.type "BaseException") = some true)
    (xt_BadWords : PySem.W.typeIn K (.ref C_BadWords) = some (.type "type"))
    (xi_BadWords : PySem.W.isClsIn K C_BadWords = true)
    (xs_BadWords : PySem.W.subIn K (.ref C_BadWords) (.ref C_BadWords) = some true)
    (xhd_BadWords : PySem.W.hasDictIn K C_BadWords = true)
    (xga_BadWords : PySem.W.findIn K (.ref C_BadWords) "__getattribute__" = some (some (.builtin "BaseException.__getattribute__")))
    (xgg_BadWords : PySem.W.findIn K (.ref C_BadWords) "__getattr__" = some none)
    (xca_BadWords : PySem.W.findIn K (.ref C_BadWords) "__class__" = some (some (.builtin "object.__class__")))
    (xcm_BadWords : PySem.W.mroIn K C_BadWords (.type "object") = some true)
    (xnf_BadWords : PySem.W.findIn K (.ref C_BadWords) "at" = some none)
    (xe_BadSource : PySem.W.excInitIn K C_BadSource [.type "Exception", .type "BaseException", .type "object"] "Exception.__new__" = true)
    (xsa_BadSource : PySem.W.findIn K (.ref C_BadSource) "__setattr__" = some (some (.builtin "object.__setattr__")))
    (xk_BadSource : PySem.W.keepIn K (.ref C_BadSource) = true)
    (xb_BadSource : PySem.W.subIn K (.ref C_BadSource) (.type "BaseException") = some true)
    (xt_BadSource : PySem.W.typeIn K (.ref C_BadSource) = some (.type "type"))
    (xi_BadSource : PySem.W.isClsIn K C_BadSource = true)
    (xs_BadSource : PySem.W.subIn K (.ref C_BadSource) (.ref C_BadSource) = some true)
    (xhd_BadSource : PySem.W.hasDictIn K C_BadSource = true)
    (xga_BadSource : PySem.W.findIn K (.ref C_BadSource) "__getattribute__" = some (some (.builtin "BaseException.__getattribute__")))
    (xgg_BadSource : PySem.W.findIn K (.ref C_BadSource) "__getattr__" = some none)
    (xca_BadSource : PySem.W.findIn K (.ref C_BadSource) "__class__" = some (some (.builtin "object.__class__")))
    (xcm_BadSource : PySem.W.mroIn K C_BadSource (.type "object") = some true)
    (xnf_BadSource : PySem.W.findIn K (.ref C_BadSource) "number" = some none)
    (xcn : PySem.W.specialIn K (.builtin "object.__class__") "__get__" = some (some (.builtin "getset_descriptor.__get__")))
    (xct : PySem.W.takesIn K (.builtin "object.__class__") = some true)
    (xci_BadWords : PySem.W.isClsIn K C_BadWords = true)
    (xcty_BadWords : PySem.W.typeIn K (.ref C_BadWords) = some (.type "type"))
    (ks_BadSource_BadWords : PySem.W.subIn K (.ref C_BadSource) (.ref C_BadWords) = some false)
    : ∃ T : Txt w K mg, T.f_law = f_law ∧ T.fd_law = PySem.W.fnOf "law" "law" (defArgs s_law) (defBody s_law) (defScope s_law) .none kV dc pm an cd ct := by
  obtain ⟨fd_BadWords_init, F_BadWords_init, b_BadWords_init⟩ := m_BadWords_init
  obtain ⟨fd_BadSource_init, F_BadSource_init, b_BadSource_init⟩ := m_BadSource_init
  obtain ⟨fd_is_int, F_is_int, b_is_int⟩ := m_is_int
  obtain ⟨fd_is_row, F_is_row, b_is_row⟩ := m_is_row
  obtain ⟨fd_is_word, F_is_word, b_is_word⟩ := m_is_word
  obtain ⟨fd_check_int, F_check_int, b_check_int⟩ := m_check_int
  obtain ⟨fd_letters_of, F_letters_of, b_letters_of⟩ := m_letters_of
  obtain ⟨fd_fixed_bits, F_fixed_bits, b_fixed_bits⟩ := m_fixed_bits
  obtain ⟨fd_letters_for, F_letters_for, b_letters_for⟩ := m_letters_for
  obtain ⟨fd_written_line, F_written_line, b_written_line⟩ := m_written_line
  obtain ⟨fd_is_name, F_is_name, b_is_name⟩ := m_is_name
  obtain ⟨fd_first_of, F_first_of, b_first_of⟩ := m_first_of
  obtain ⟨fd_is_pattern, F_is_pattern, b_is_pattern⟩ := m_is_pattern
  obtain ⟨fd_are_patterns, F_are_patterns, b_are_patterns⟩ := m_are_patterns
  obtain ⟨fd_first_wrong, F_first_wrong, b_first_wrong⟩ := m_first_wrong
  obtain ⟨fd_Form_init, F_Form_init, b_Form_init⟩ := m_Form_init
  obtain ⟨fd_Grammar_init, F_Grammar_init, b_Grammar_init⟩ := m_Grammar_init
  obtain ⟨fd_checked_forms, F_checked_forms, b_checked_forms⟩ := m_checked_forms
  obtain ⟨fd_written, F_written, b_written⟩ := m_written
  obtain ⟨fd_Book_init, F_Book_init, b_Book_init⟩ := m_Book_init
  obtain ⟨fd_Grammar_is_line, F_Grammar_is_line, b_Grammar_is_line⟩ := m_Grammar_is_line
  obtain ⟨fd_Grammar_is_entry, F_Grammar_is_entry, b_Grammar_is_entry⟩ := m_Grammar_is_entry
  obtain ⟨fd_ones, F_ones, b_ones⟩ := m_ones
  obtain ⟨fd_check_length, F_check_length, b_check_length⟩ := m_check_length
  obtain ⟨fd_check_entries, F_check_entries, b_check_entries⟩ := m_check_entries
  obtain ⟨fd_check_words, F_check_words, b_check_words⟩ := m_check_words
  obtain ⟨fd_op_word, F_op_word, b_op_word⟩ := m_op_word
  obtain ⟨fd_Book_form_named, F_Book_form_named, b_Book_form_named⟩ := m_Book_form_named
  obtain ⟨fd_form_of, F_form_of, b_form_of⟩ := m_form_of
  obtain ⟨fd_letters_told, F_letters_told, b_letters_told⟩ := m_letters_told
  obtain ⟨fd_Answers_init, F_Answers_init, b_Answers_init⟩ := m_Answers_init
  obtain ⟨fd_Answers_answer, F_Answers_answer, b_Answers_answer⟩ := m_Answers_answer
  obtain ⟨fd_answer_at, F_answer_at, b_answer_at⟩ := m_answer_at
  obtain ⟨fd_Doing_init, F_Doing_init, b_Doing_init⟩ := m_Doing_init
  obtain ⟨fd_Doing_told, F_Doing_told, b_Doing_told⟩ := m_Doing_told
  obtain ⟨fd_Doing_ask, F_Doing_ask, b_Doing_ask⟩ := m_Doing_ask
  obtain ⟨fd_Doing_value, F_Doing_value, b_Doing_value⟩ := m_Doing_value
  obtain ⟨fd_Doing_stopped, F_Doing_stopped, b_Doing_stopped⟩ := m_Doing_stopped
  obtain ⟨fd_Doing_finished, F_Doing_finished, b_Doing_finished⟩ := m_Doing_finished
  obtain ⟨fd_handed_over, F_handed_over, b_handed_over⟩ := m_handed_over
  obtain ⟨fd_check_answers, F_check_answers, b_check_answers⟩ := m_check_answers
  obtain ⟨fd_run_code, F_run_code, b_run_code⟩ := m_run_code
  obtain ⟨fd_named, F_named, b_named⟩ := m_named
  obtain ⟨fd_law_draws, F_law_draws, b_law_draws⟩ := m_law_draws
  obtain ⟨fd_law_take, F_law_take, b_law_take⟩ := m_law_take
  obtain ⟨fd_law_word, F_law_word, b_law_word⟩ := m_law_word
  obtain ⟨fd_law_is_int, F_law_is_int, b_law_is_int⟩ := m_law_is_int
  obtain ⟨fd_law_letters, F_law_letters, b_law_letters⟩ := m_law_letters
  obtain ⟨fd_law_patterns, F_law_patterns, b_law_patterns⟩ := m_law_patterns
  obtain ⟨fd_law_numbers_drawn, F_law_numbers_drawn, b_law_numbers_drawn⟩ := m_law_numbers_drawn
  obtain ⟨fd_law_ops, F_law_ops, b_law_ops⟩ := m_law_ops
  obtain ⟨fd_law_is_code, F_law_is_code, b_law_is_code⟩ := m_law_is_code
  obtain ⟨fd_law_line, F_law_line, b_law_line⟩ := m_law_line
  obtain ⟨fd_law_lines, F_law_lines, b_law_lines⟩ := m_law_lines
  obtain ⟨fd_law_touched, F_law_touched, b_law_touched⟩ := m_law_touched
  obtain ⟨fd_law_refused, F_law_refused, b_law_refused⟩ := m_law_refused
  obtain ⟨fd_law_same_run, F_law_same_run, b_law_same_run⟩ := m_law_same_run
  obtain ⟨fd_law_one_word, F_law_one_word, b_law_one_word⟩ := m_law_one_word
  have F_law := fun_mk (st := s_law) l_law c_law kp_law
  refine ⟨{
    f_BadWords_init := f_BadWords_init,
    fd_BadWords_init := fd_BadWords_init,
    F_BadWords_init := F_BadWords_init,
    b_BadWords_init := b_BadWords_init,
    f_BadSource_init := f_BadSource_init,
    fd_BadSource_init := fd_BadSource_init,
    F_BadSource_init := F_BadSource_init,
    b_BadSource_init := b_BadSource_init,
    f_is_int := f_is_int,
    fd_is_int := fd_is_int,
    F_is_int := F_is_int,
    b_is_int := b_is_int,
    g_is_int := PySem.W.mg_of X G a_fn_is_int,
    f_is_row := f_is_row,
    fd_is_row := fd_is_row,
    F_is_row := F_is_row,
    b_is_row := b_is_row,
    g_is_row := PySem.W.mg_of X G a_fn_is_row,
    f_is_word := f_is_word,
    fd_is_word := fd_is_word,
    F_is_word := F_is_word,
    b_is_word := b_is_word,
    g_is_word := PySem.W.mg_of X G a_fn_is_word,
    f_check_int := f_check_int,
    fd_check_int := fd_check_int,
    F_check_int := F_check_int,
    b_check_int := b_check_int,
    g_check_int := PySem.W.mg_of X G a_fn_check_int,
    f_letters_of := f_letters_of,
    fd_letters_of := fd_letters_of,
    F_letters_of := F_letters_of,
    b_letters_of := b_letters_of,
    g_letters_of := PySem.W.mg_of X G a_fn_letters_of,
    f_fixed_bits := f_fixed_bits,
    fd_fixed_bits := fd_fixed_bits,
    F_fixed_bits := F_fixed_bits,
    b_fixed_bits := b_fixed_bits,
    g_fixed_bits := PySem.W.mg_of X G a_fn_fixed_bits,
    f_letters_for := f_letters_for,
    fd_letters_for := fd_letters_for,
    F_letters_for := F_letters_for,
    b_letters_for := b_letters_for,
    g_letters_for := PySem.W.mg_of X G a_fn_letters_for,
    f_written_line := f_written_line,
    fd_written_line := fd_written_line,
    F_written_line := F_written_line,
    b_written_line := b_written_line,
    g_written_line := PySem.W.mg_of X G a_fn_written_line,
    f_is_name := f_is_name,
    fd_is_name := fd_is_name,
    F_is_name := F_is_name,
    b_is_name := b_is_name,
    g_is_name := PySem.W.mg_of X G a_fn_is_name,
    f_first_of := f_first_of,
    fd_first_of := fd_first_of,
    F_first_of := F_first_of,
    b_first_of := b_first_of,
    g_first_of := PySem.W.mg_of X G a_fn_first_of,
    f_is_pattern := f_is_pattern,
    fd_is_pattern := fd_is_pattern,
    F_is_pattern := F_is_pattern,
    b_is_pattern := b_is_pattern,
    g_is_pattern := PySem.W.mg_of X G a_fn_is_pattern,
    f_are_patterns := f_are_patterns,
    fd_are_patterns := fd_are_patterns,
    F_are_patterns := F_are_patterns,
    b_are_patterns := b_are_patterns,
    g_are_patterns := PySem.W.mg_of X G a_fn_are_patterns,
    f_first_wrong := f_first_wrong,
    fd_first_wrong := fd_first_wrong,
    F_first_wrong := F_first_wrong,
    b_first_wrong := b_first_wrong,
    g_first_wrong := PySem.W.mg_of X G a_fn_first_wrong,
    f_Form_init := f_Form_init,
    fd_Form_init := fd_Form_init,
    F_Form_init := F_Form_init,
    b_Form_init := b_Form_init,
    f_Grammar_init := f_Grammar_init,
    fd_Grammar_init := fd_Grammar_init,
    F_Grammar_init := F_Grammar_init,
    b_Grammar_init := b_Grammar_init,
    f_checked_forms := f_checked_forms,
    fd_checked_forms := fd_checked_forms,
    F_checked_forms := F_checked_forms,
    b_checked_forms := b_checked_forms,
    g_checked_forms := PySem.W.mg_of X G a_fn_checked_forms,
    f_written := f_written,
    fd_written := fd_written,
    F_written := F_written,
    b_written := b_written,
    g_written := PySem.W.mg_of X G a_fn_written,
    f_Book_init := f_Book_init,
    fd_Book_init := fd_Book_init,
    F_Book_init := F_Book_init,
    b_Book_init := b_Book_init,
    f_Grammar_is_line := f_Grammar_is_line,
    fd_Grammar_is_line := fd_Grammar_is_line,
    F_Grammar_is_line := F_Grammar_is_line,
    b_Grammar_is_line := b_Grammar_is_line,
    m_Grammar_is_line := ⟨a_fn_Grammar_is_line, i_Grammar_is_line, kp_Grammar_is_line⟩,
    f_Grammar_is_entry := f_Grammar_is_entry,
    fd_Grammar_is_entry := fd_Grammar_is_entry,
    F_Grammar_is_entry := F_Grammar_is_entry,
    b_Grammar_is_entry := b_Grammar_is_entry,
    m_Grammar_is_entry := ⟨a_fn_Grammar_is_entry, i_Grammar_is_entry, kp_Grammar_is_entry⟩,
    f_ones := f_ones,
    fd_ones := fd_ones,
    F_ones := F_ones,
    b_ones := b_ones,
    g_ones := PySem.W.mg_of X G a_fn_ones,
    f_check_length := f_check_length,
    fd_check_length := fd_check_length,
    F_check_length := F_check_length,
    b_check_length := b_check_length,
    g_check_length := PySem.W.mg_of X G a_fn_check_length,
    f_check_entries := f_check_entries,
    fd_check_entries := fd_check_entries,
    F_check_entries := F_check_entries,
    b_check_entries := b_check_entries,
    g_check_entries := PySem.W.mg_of X G a_fn_check_entries,
    f_check_words := f_check_words,
    fd_check_words := fd_check_words,
    F_check_words := F_check_words,
    b_check_words := b_check_words,
    g_check_words := PySem.W.mg_of X G a_fn_check_words,
    f_op_word := f_op_word,
    fd_op_word := fd_op_word,
    F_op_word := F_op_word,
    b_op_word := b_op_word,
    g_op_word := PySem.W.mg_of X G a_fn_op_word,
    f_Book_form_named := f_Book_form_named,
    fd_Book_form_named := fd_Book_form_named,
    F_Book_form_named := F_Book_form_named,
    b_Book_form_named := b_Book_form_named,
    m_Book_form_named := ⟨a_fn_Book_form_named, i_Book_form_named, kp_Book_form_named⟩,
    f_form_of := f_form_of,
    fd_form_of := fd_form_of,
    F_form_of := F_form_of,
    b_form_of := b_form_of,
    g_form_of := PySem.W.mg_of X G a_fn_form_of,
    f_letters_told := f_letters_told,
    fd_letters_told := fd_letters_told,
    F_letters_told := F_letters_told,
    b_letters_told := b_letters_told,
    g_letters_told := PySem.W.mg_of X G a_fn_letters_told,
    f_Answers_init := f_Answers_init,
    fd_Answers_init := fd_Answers_init,
    F_Answers_init := F_Answers_init,
    b_Answers_init := b_Answers_init,
    f_Answers_answer := f_Answers_answer,
    fd_Answers_answer := fd_Answers_answer,
    F_Answers_answer := F_Answers_answer,
    b_Answers_answer := b_Answers_answer,
    m_Answers_answer := ⟨a_fn_Answers_answer, i_Answers_answer, kp_Answers_answer⟩,
    f_answer_at := f_answer_at,
    fd_answer_at := fd_answer_at,
    F_answer_at := F_answer_at,
    b_answer_at := b_answer_at,
    g_answer_at := PySem.W.mg_of X G a_fn_answer_at,
    f_Doing_init := f_Doing_init,
    fd_Doing_init := fd_Doing_init,
    F_Doing_init := F_Doing_init,
    b_Doing_init := b_Doing_init,
    f_Doing_told := f_Doing_told,
    fd_Doing_told := fd_Doing_told,
    F_Doing_told := F_Doing_told,
    b_Doing_told := b_Doing_told,
    m_Doing_told := ⟨a_fn_Doing_told, i_Doing_told, kp_Doing_told⟩,
    f_Doing_ask := f_Doing_ask,
    fd_Doing_ask := fd_Doing_ask,
    F_Doing_ask := F_Doing_ask,
    b_Doing_ask := b_Doing_ask,
    m_Doing_ask := ⟨a_fn_Doing_ask, i_Doing_ask, kp_Doing_ask⟩,
    f_Doing_value := f_Doing_value,
    fd_Doing_value := fd_Doing_value,
    F_Doing_value := F_Doing_value,
    b_Doing_value := b_Doing_value,
    m_Doing_value := ⟨a_fn_Doing_value, i_Doing_value, kp_Doing_value⟩,
    f_Doing_stopped := f_Doing_stopped,
    fd_Doing_stopped := fd_Doing_stopped,
    F_Doing_stopped := F_Doing_stopped,
    b_Doing_stopped := b_Doing_stopped,
    m_Doing_stopped := ⟨a_fn_Doing_stopped, i_Doing_stopped, kp_Doing_stopped⟩,
    f_Doing_finished := f_Doing_finished,
    fd_Doing_finished := fd_Doing_finished,
    F_Doing_finished := F_Doing_finished,
    b_Doing_finished := b_Doing_finished,
    m_Doing_finished := ⟨a_fn_Doing_finished, i_Doing_finished, kp_Doing_finished⟩,
    f_handed_over := f_handed_over,
    fd_handed_over := fd_handed_over,
    F_handed_over := F_handed_over,
    b_handed_over := b_handed_over,
    g_handed_over := PySem.W.mg_of X G a_fn_handed_over,
    f_check_answers := f_check_answers,
    fd_check_answers := fd_check_answers,
    F_check_answers := F_check_answers,
    b_check_answers := b_check_answers,
    g_check_answers := PySem.W.mg_of X G a_fn_check_answers,
    f_run_code := f_run_code,
    fd_run_code := fd_run_code,
    F_run_code := F_run_code,
    b_run_code := b_run_code,
    g_run_code := PySem.W.mg_of X G a_fn_run_code,
    f_named := f_named,
    fd_named := fd_named,
    F_named := F_named,
    b_named := b_named,
    g_named := PySem.W.mg_of X G a_fn_named,
    f_law_draws := f_law_draws,
    fd_law_draws := fd_law_draws,
    F_law_draws := F_law_draws,
    b_law_draws := b_law_draws,
    g_law_draws := PySem.W.mg_of X G a_fn_law_draws,
    f_law_take := f_law_take,
    fd_law_take := fd_law_take,
    F_law_take := F_law_take,
    b_law_take := b_law_take,
    g_law_take := PySem.W.mg_of X G a_fn_law_take,
    f_law_word := f_law_word,
    fd_law_word := fd_law_word,
    F_law_word := F_law_word,
    b_law_word := b_law_word,
    g_law_word := PySem.W.mg_of X G a_fn_law_word,
    f_law_is_int := f_law_is_int,
    fd_law_is_int := fd_law_is_int,
    F_law_is_int := F_law_is_int,
    b_law_is_int := b_law_is_int,
    g_law_is_int := PySem.W.mg_of X G a_fn_law_is_int,
    f_law_letters := f_law_letters,
    fd_law_letters := fd_law_letters,
    F_law_letters := F_law_letters,
    b_law_letters := b_law_letters,
    g_law_letters := PySem.W.mg_of X G a_fn_law_letters,
    f_law_patterns := f_law_patterns,
    fd_law_patterns := fd_law_patterns,
    F_law_patterns := F_law_patterns,
    b_law_patterns := b_law_patterns,
    g_law_patterns := PySem.W.mg_of X G a_fn_law_patterns,
    f_law_numbers_drawn := f_law_numbers_drawn,
    fd_law_numbers_drawn := fd_law_numbers_drawn,
    F_law_numbers_drawn := F_law_numbers_drawn,
    b_law_numbers_drawn := b_law_numbers_drawn,
    g_law_numbers_drawn := PySem.W.mg_of X G a_fn_law_numbers_drawn,
    f_law_ops := f_law_ops,
    fd_law_ops := fd_law_ops,
    F_law_ops := F_law_ops,
    b_law_ops := b_law_ops,
    g_law_ops := PySem.W.mg_of X G a_fn_law_ops,
    f_law_is_code := f_law_is_code,
    fd_law_is_code := fd_law_is_code,
    F_law_is_code := F_law_is_code,
    b_law_is_code := b_law_is_code,
    g_law_is_code := PySem.W.mg_of X G a_fn_law_is_code,
    f_law_line := f_law_line,
    fd_law_line := fd_law_line,
    F_law_line := F_law_line,
    b_law_line := b_law_line,
    g_law_line := PySem.W.mg_of X G a_fn_law_line,
    f_law_lines := f_law_lines,
    fd_law_lines := fd_law_lines,
    F_law_lines := F_law_lines,
    b_law_lines := b_law_lines,
    g_law_lines := PySem.W.mg_of X G a_fn_law_lines,
    f_law_touched := f_law_touched,
    fd_law_touched := fd_law_touched,
    F_law_touched := F_law_touched,
    b_law_touched := b_law_touched,
    g_law_touched := PySem.W.mg_of X G a_fn_law_touched,
    f_law_refused := f_law_refused,
    fd_law_refused := fd_law_refused,
    F_law_refused := F_law_refused,
    b_law_refused := b_law_refused,
    g_law_refused := PySem.W.mg_of X G a_fn_law_refused,
    f_law_same_run := f_law_same_run,
    fd_law_same_run := fd_law_same_run,
    F_law_same_run := F_law_same_run,
    b_law_same_run := b_law_same_run,
    g_law_same_run := PySem.W.mg_of X G a_fn_law_same_run,
    f_law_one_word := f_law_one_word,
    fd_law_one_word := fd_law_one_word,
    F_law_one_word := F_law_one_word,
    b_law_one_word := b_law_one_word,
    g_law_one_word := PySem.W.mg_of X G a_fn_law_one_word,
    f_law := f_law,
    fd_law := _,
    F_law := F_law,
    b_law := F_law.binds (ps := ["_law_script"]) fun _ _ _ _ _ _ us hl => match us, hl with | [_], _ => rfl,
    g_law := PySem.W.mg_of X G a_fn_law,
    C_Form := C_Form,
    cl_Form := ⟨pg_Form, hd_Form, po_Form, sa_Form⟩,
    g_Form := PySem.W.mg_of X G aC_Form,
    M_Form := ⟨mkI_Form, a_fn_Form_init, i_Form_init, kc_Form⟩,
    nA_Form_name := nA_Form_name,
    nA_Form_patterns := nA_Form_patterns,
    nA_Form_lines := nA_Form_lines,
    nA_Form_size := nA_Form_size,
    nA_Form_letters := nA_Form_letters,
    nA_Form_effect := nA_Form_effect,
    nA_Form_goto := nA_Form_goto,
    nA_Form_fixed := nA_Form_fixed,
    C_Grammar := C_Grammar,
    cl_Grammar := ⟨pg_Grammar, hd_Grammar, po_Grammar, sa_Grammar⟩,
    g_Grammar := PySem.W.mg_of X G aC_Grammar,
    M_Grammar := ⟨mkI_Grammar, a_fn_Grammar_init, i_Grammar_init, kc_Grammar⟩,
    nA_Grammar_letters := nA_Grammar_letters,
    nA_Grammar_numbers := nA_Grammar_numbers,
    C_Book := C_Book,
    cl_Book := ⟨pg_Book, hd_Book, po_Book, sa_Book⟩,
    g_Book := PySem.W.mg_of X G aC_Book,
    M_Book := ⟨mkI_Book, a_fn_Book_init, i_Book_init, kc_Book⟩,
    nA_Book_word := nA_Book_word,
    nA_Book_registers := nA_Book_registers,
    nA_Book_forms := nA_Book_forms,
    nA_Book__named := nA_Book__named,
    nA_Book__text := nA_Book__text,
    C_Doing := C_Doing,
    cl_Doing := ⟨pg_Doing, hd_Doing, po_Doing, sa_Doing⟩,
    g_Doing := PySem.W.mg_of X G aC_Doing,
    M_Doing := ⟨mkI_Doing, a_fn_Doing_init, i_Doing_init, kc_Doing⟩,
    nA_Doing_form := nA_Doing_form,
    nA_Doing_word := nA_Doing_word,
    nA_Doing_letters := nA_Doing_letters,
    nA_Doing_place := nA_Doing_place,
    nA_Doing_after := nA_Doing_after,
    nA_Doing_regs := nA_Doing_regs,
    nA_Doing_words := nA_Doing_words,
    C_Answers := C_Answers,
    cl_Answers := ⟨pg_Answers, hd_Answers, po_Answers, sa_Answers⟩,
    g_Answers := PySem.W.mg_of X G aC_Answers,
    M_Answers := ⟨mkI_Answers, a_fn_Answers_init, i_Answers_init, kc_Answers⟩,
    nA_Answers_answers := nA_Answers_answers,
    nA_Answers_asks := nA_Answers_asks,
    ki_BadSource_BadWords := kit_of xci_BadWords xcty_BadWords ks_BadSource_BadWords xs_BadSource,
    xc_BadWords := ⟨xga_BadWords, xgg_BadWords, xb_BadWords, xhd_BadWords, xca_BadWords, xcn, xct, xcm_BadWords⟩,
    xc_BadSource := ⟨xga_BadSource, xgg_BadSource, xb_BadSource, xhd_BadSource, xca_BadSource, xcn, xct, xcm_BadSource⟩,
    t_LETTERS := t_LETTERS,
    c_LETTERS := PySem.W.mg_of X G ct_LETTERS,
    t_REGISTER_LETTERS := t_REGISTER_LETTERS,
    c_REGISTER_LETTERS := PySem.W.mg_of X G ct_REGISTER_LETTERS,
    t_NUMBER_LETTERS := t_NUMBER_LETTERS,
    c_NUMBER_LETTERS := PySem.W.mg_of X G ct_NUMBER_LETTERS,
    t_MOST_FORMS := t_MOST_FORMS,
    c_MOST_FORMS := PySem.W.mg_of X G ct_MOST_FORMS,
    t_MOST_PATTERNS := t_MOST_PATTERNS,
    c_MOST_PATTERNS := PySem.W.mg_of X G ct_MOST_PATTERNS,
    t_MOST_LINES := t_MOST_LINES,
    c_MOST_LINES := PySem.W.mg_of X G ct_MOST_LINES,
    t_SMALL_LETTERS := t_SMALL_LETTERS,
    c_SMALL_LETTERS := PySem.W.mg_of X G ct_SMALL_LETTERS,
    a_EFFECTS := a_EFFECTS,
    c_EFFECTS := PySem.W.mg_of X G ca_EFFECTS,
    v_EFFECTS := cv_EFFECTS,
    a_VALUES := a_VALUES,
    c_VALUES := PySem.W.mg_of X G ca_VALUES,
    v_VALUES := cv_VALUES,
    a_ASKING := a_ASKING,
    c_ASKING := PySem.W.mg_of X G ca_ASKING,
    v_ASKING := cv_ASKING,
    a_ENTRIES := a_ENTRIES,
    c_ENTRIES := PySem.W.mg_of X G ca_ENTRIES,
    kt_ENTRIES := kt_ENTRIES,
    a_REFUSED := a_REFUSED,
    c_REFUSED := PySem.W.mg_of X G ca_REFUSED,
    kt_REFUSED := kt_REFUSED,
    n_len := PySem.W.mg_none_of X G z_len,
    n_list := PySem.W.mg_none_of X G z_list,
    n_tuple := PySem.W.mg_none_of X G z_tuple,
    n_int := PySem.W.mg_none_of X G z_int,
    n_str := PySem.W.mg_none_of X G z_str,
    n_min := PySem.W.mg_none_of X G z_min,
    n_range := PySem.W.mg_none_of X G z_range,
    n_isinstance := PySem.W.mg_none_of X G z_isinstance,
    n_bool := PySem.W.mg_none_of X G z_bool,
    n_sum := PySem.W.mg_none_of X G z_sum,
    n_all := PySem.W.mg_none_of X G z_all,
    n_any := PySem.W.mg_none_of X G z_any,
    n_enumerate := PySem.W.mg_none_of X G z_enumerate,
    n_zip := PySem.W.mg_none_of X G z_zip,
    n_reversed := PySem.W.mg_none_of X G z_reversed,
    n_sorted := PySem.W.mg_none_of X G z_sorted,
    C_BadWords := C_BadWords,
    g_BadWords := PySem.W.mg_of X G xa_BadWords,
    o_BadWords := oexE_of xe_BadWords xhd_BadWords xsa_BadWords xb_BadWords xt_BadWords xk_BadWords,
    ii_BadWords := ii_BadWords,
    it_BadWords := it_BadWords,
    xf_BadWords := ⟨xga_BadWords, xgg_BadWords, xb_BadWords, xhd_BadWords⟩,
    nf_BadWords := xnf_BadWords,
    te_BadWords := exm_own xb_BadWords xi_BadWords xt_BadWords xs_BadWords,
    C_BadSource := C_BadSource,
    g_BadSource := PySem.W.mg_of X G xa_BadSource,
    o_BadSource := oexE_of xe_BadSource xhd_BadSource xsa_BadSource xb_BadSource xt_BadSource xk_BadSource,
    ii_BadSource := ii_BadSource,
    it_BadSource := it_BadSource,
    xf_BadSource := ⟨xga_BadSource, xgg_BadSource, xb_BadSource, xhd_BadSource⟩,
    nf_BadSource := xnf_BadSource,
    te_BadSource := exm_own xb_BadSource xi_BadSource xt_BadSource xs_BadSource }, rfl, rfl⟩
def spL (K : PySem.W.Frag) : Sp := fun vs H Q _ => ∃ (a : Addr) (xs : List Int), vs = [.ref a] ∧ SqL K H a (xs.map V.int) ∧ xs.length ≤ 63 ∧ ∀ H', Q (.bl true) H'
theorem walk {l : PySem.W.OpenLaw} {q : Program} {loose : List Str} {XP : (Str → Option Value) → Heap → Prop} {YP : World → Heap → Prop} {d : DefRec} {K : Params → PySem.W.Frag} (hn : l.most = some 63) (hdf : d.params.defaults = [])
    (hY : ∀ (w : World) (h : Heap), YP w h → (K w.params).In h)
    (F : ∀ (w : World) (mg : Str → Option Value) (fa : Addr) (h : Heap), (K w.params).In h → h.Ns mainGlobals mg → mg d.name = some (.ref fa) →
      ∃ fd : FuncData, (∀ (s : Shared) (u : Value), BindsTo s fd ⟨[u], []⟩ [("_law_script", u)]) ∧ ∀ base : Heap, (K w.params).In base → base.Ns mainGlobals mg → FnOk l.prog w (K w.params) mg base CX0 9 fa fd ["_law_script"] (spL (K w.params))) :
    PySem.W.WalkO q loose XP YP l.row.toRowW d [] (fun f vs => PySem.call f vs) :=
  L2.walk_of (n := 63) (k := 9) (x := "_law_script") (CX := fun _ => CX0) (sp := fun w => spL (K w.params)) hn (by decide) hdf ⟨rfl, by decide, by decide⟩ hY F (fun _ _ a ns hl _ hS => ⟨a, ns, rfl, hS, hl, fun _ => rfl⟩) fun _ _ _ _ _ z => z
/-- the law by what the top has left -/
theorem law_of {P : Program} {w : World} {K : PySem.W.Frag} {mg : Str → Option Value} {fa fl : Addr} {an : Option Addr} {kV dc pm cd ct : Value} (hfa : mg "law" = some (.ref fa))
    (h : ∃ T : Txt w K mg, T.f_law = fl ∧ T.fd_law = PySem.W.fnOf "law" "law" (defArgs s_law) (defBody s_law) (defScope s_law) .none kV dc pm an cd ct) :
    ∃ fd : FuncData, (∀ (s : Shared) (u : Value), BindsTo s fd ⟨[u], []⟩ [("_law_script", u)]) ∧ ∀ base : Heap, K.In base → base.Ns mainGlobals mg → FnOk P w K mg base CX0 9 fa fd ["_law_script"] (spL K) := by
  obtain ⟨T, e1, e2⟩ := h
  have e := hfa.symm.trans T.g_law
  cases e
  refine ⟨T.fd_law, fun s v => by rw [e2]; exact .of_eq rfl, fun base _ _ => ?_⟩
  exact ok_law (P := P) (w := w) (base := base) T
end My

open PySem PySem.W PyProof.Rows in
set_option maxRecDepth 100000 in
set_option maxHeartbeats 0 in
theorem PySem.Challenge.cw_selfwritten_k18_registers_not_named_holds : PySem.Challenge.rw_selfwritten_k18_registers_not_named.Holds := by
  w_on; o_law; k_head; (case hw => w_witness2)
  k_fill
  refine My.walk (l := PySem.Challenge.rw_selfwritten_k18_registers_not_named) rfl rfl (fun w h Y => PySem.W.kIn_of Y) ?F
  case F =>
    intro w mg fa h KX G hmg
    refine' My.law_of hmg (My.all_mk KX G ?xa_BadWords ?ii_BadWords ?it_BadWords ?m_BadWords_init ?xa_BadSource ?ii_BadSource ?it_BadSource ?m_BadSource_init ?a_fn_is_int ?m_is_int ?a_fn_is_row ?m_is_row ?a_fn_is_word ?m_is_word ?a_fn_check_int ?m_check_int ?a_fn_letters_of ?m_letters_of ?a_fn_fixed_bits ?m_fixed_bits ?a_fn_letters_for ?m_letters_for ?a_fn_written_line ?m_written_line ?a_fn_is_name ?m_is_name ?a_fn_first_of ?m_first_of ?a_fn_is_pattern ?m_is_pattern ?a_fn_are_patterns ?m_are_patterns ?a_fn_first_wrong ?m_first_wrong ?a_fn_Form_init ?i_Form_init ?kp_Form_init ?m_Form_init ?a_fn_Grammar_init ?i_Grammar_init ?kp_Grammar_init ?m_Grammar_init ?a_fn_checked_forms ?m_checked_forms ?a_fn_written ?m_written ?a_fn_Book_init ?i_Book_init ?kp_Book_init ?m_Book_init ?a_fn_Grammar_is_line ?i_Grammar_is_line ?kp_Grammar_is_line ?m_Grammar_is_line ?a_fn_Grammar_is_entry ?i_Grammar_is_entry ?kp_Grammar_is_entry ?m_Grammar_is_entry ?a_fn_ones ?m_ones ?a_fn_check_length ?m_check_length ?a_fn_check_entries ?m_check_entries ?a_fn_check_words ?m_check_words ?a_fn_op_word ?m_op_word ?a_fn_Book_form_named ?i_Book_form_named ?kp_Book_form_named ?m_Book_form_named ?a_fn_form_of ?m_form_of ?a_fn_letters_told ?m_letters_told ?a_fn_Answers_init ?i_Answers_init ?kp_Answers_init ?m_Answers_init ?a_fn_Answers_answer ?i_Answers_answer ?kp_Answers_answer ?m_Answers_answer ?a_fn_answer_at ?m_answer_at ?a_fn_Doing_init ?i_Doing_init ?kp_Doing_init ?m_Doing_init ?a_fn_Doing_told ?i_Doing_told ?kp_Doing_told ?m_Doing_told ?a_fn_Doing_ask ?i_Doing_ask ?kp_Doing_ask ?m_Doing_ask ?a_fn_Doing_value ?i_Doing_value ?kp_Doing_value ?m_Doing_value ?a_fn_Doing_stopped ?i_Doing_stopped ?kp_Doing_stopped ?m_Doing_stopped ?a_fn_Doing_finished ?i_Doing_finished ?kp_Doing_finished ?m_Doing_finished ?a_fn_handed_over ?m_handed_over ?a_fn_check_answers ?m_check_answers ?a_fn_run_code ?m_run_code ?a_fn_named ?m_named ?a_fn_law_draws ?m_law_draws ?a_fn_law_take ?m_law_take ?a_fn_law_word ?m_law_word ?a_fn_law_is_int ?m_law_is_int ?a_fn_law_letters ?m_law_letters ?a_fn_law_patterns ?m_law_patterns ?a_fn_law_numbers_drawn ?m_law_numbers_drawn ?a_fn_law_ops ?m_law_ops ?a_fn_law_is_code ?m_law_is_code ?a_fn_law_line ?m_law_line ?a_fn_law_lines ?m_law_lines ?a_fn_law_touched ?m_law_touched ?a_fn_law_refused ?m_law_refused ?a_fn_law_same_run ?m_law_same_run ?a_fn_law_one_word ?m_law_one_word ?a_fn_law ?l_law ?c_law ?kp_law ?aC_Form ?pg_Form ?hd_Form ?po_Form ?sa_Form ?mkI_Form ?kc_Form ?nA_Form_name ?nA_Form_patterns ?nA_Form_lines ?nA_Form_size ?nA_Form_letters ?nA_Form_effect ?nA_Form_goto ?nA_Form_fixed ?aC_Grammar ?pg_Grammar ?hd_Grammar ?po_Grammar ?sa_Grammar ?mkI_Grammar ?kc_Grammar ?nA_Grammar_letters ?nA_Grammar_numbers ?aC_Book ?pg_Book ?hd_Book ?po_Book ?sa_Book ?mkI_Book ?kc_Book ?nA_Book_word ?nA_Book_registers ?nA_Book_forms ?nA_Book__named ?nA_Book__text ?aC_Doing ?pg_Doing ?hd_Doing ?po_Doing ?sa_Doing ?mkI_Doing ?kc_Doing ?nA_Doing_form ?nA_Doing_word ?nA_Doing_letters ?nA_Doing_place ?nA_Doing_after ?nA_Doing_regs ?nA_Doing_words ?aC_Answers ?pg_Answers ?hd_Answers ?po_Answers ?sa_Answers ?mkI_Answers ?kc_Answers ?nA_Answers_answers ?nA_Answers_asks ?ct_LETTERS ?ct_REGISTER_LETTERS ?ct_NUMBER_LETTERS ?ct_MOST_FORMS ?ct_MOST_PATTERNS ?ct_MOST_LINES ?ct_SMALL_LETTERS ?ca_EFFECTS ?cv_EFFECTS ?ca_VALUES ?cv_VALUES ?ca_ASKING ?cv_ASKING ?ca_ENTRIES ?kt_ENTRIES ?ca_REFUSED ?kt_REFUSED ?z_len ?z_list ?z_tuple ?z_int ?z_str ?z_min ?z_range ?z_isinstance ?z_bool ?z_sum ?z_all ?z_any ?z_enumerate ?z_zip ?z_reversed ?z_sorted ?xe_BadWords ?xsa_BadWords ?xk_BadWords ?xb_BadWords ?xt_BadWords ?xi_BadWords ?xs_BadWords ?xhd_BadWords ?xga_BadWords ?xgg_BadWords ?xca_BadWords ?xcm_BadWords ?xnf_BadWords ?xe_BadSource ?xsa_BadSource ?xk_BadSource ?xb_BadSource ?xt_BadSource ?xi_BadSource ?xs_BadSource ?xhd_BadSource ?xga_BadSource ?xgg_BadSource ?xca_BadSource ?xcm_BadSource ?xnf_BadSource ?xcn ?xct ?xci_BadWords ?xcty_BadWords ?ks_BadSource_BadWords)
    (case xa_BadWords => k_is)
    (case xa_BadSource => k_is)
    (case aC_Form => k_is)
    (case aC_Grammar => k_is)
    (case aC_Book => k_is)
    (case aC_Doing => k_is)
    (case aC_Answers => k_is)
    (case ii_BadWords => k_is)
    (case it_BadWords => k_is)
    (case m_BadWords_init => (refine' My.mk_BadWords_init ?l ?c ?k; (case l => k_is); (case c => k_is); (case k => k_is)))
    (case ii_BadSource => k_is)
    (case it_BadSource => k_is)
    (case m_BadSource_init => (refine' My.mk_BadSource_init ?l ?c ?k; (case l => k_is); (case c => k_is); (case k => k_is)))
    (case a_fn_is_int => k_is)
    (case m_is_int => (refine' My.mk_is_int ?l ?c ?k; (case l => k_is); (case c => k_is); (case k => k_is)))
    (case a_fn_is_row => k_is)
    (case m_is_row => (refine' My.mk_is_row ?l ?c ?k; (case l => k_is); (case c => k_is); (case k => k_is)))
    (case a_fn_is_word => k_is)
    (case m_is_word => (refine' My.mk_is_word ?l ?c ?k; (case l => k_is); (case c => k_is); (case k => k_is)))
    (case a_fn_check_int => k_is)
    (case m_check_int => (refine' My.mk_check_int ?l ?c ?k; (case l => k_is); (case c => k_is); (case k => k_is)))
    (case a_fn_letters_of => k_is)
    (case m_letters_of => (refine' My.mk_letters_of ?l ?c ?k; (case l => k_is); (case c => k_is); (case k => k_is)))
    (case a_fn_fixed_bits => k_is)
    (case m_fixed_bits => (refine' My.mk_fixed_bits ?l ?c ?k; (case l => k_is); (case c => k_is); (case k => k_is)))
    (case a_fn_letters_for => k_is)
    (case m_letters_for => (refine' My.mk_letters_for ?l ?c ?k; (case l => k_is); (case c => k_is); (case k => k_is)))
    (case a_fn_written_line => k_is)
    (case m_written_line => (refine' My.mk_written_line ?l ?c ?k; (case l => k_is); (case c => k_is); (case k => k_is)))
    (case a_fn_is_name => k_is)
    (case m_is_name => (refine' My.mk_is_name ?l ?c ?k; (case l => k_is); (case c => k_is); (case k => k_is)))
    (case a_fn_first_of => k_is)
    (case m_first_of => (refine' My.mk_first_of ?l ?c ?k; (case l => k_is); (case c => k_is); (case k => k_is)))
    (case a_fn_is_pattern => k_is)
    (case m_is_pattern => (refine' My.mk_is_pattern ?l ?c ?k; (case l => k_is); (case c => k_is); (case k => k_is)))
    (case a_fn_are_patterns => k_is)
    (case m_are_patterns => (refine' My.mk_are_patterns ?l ?c ?k; (case l => k_is); (case c => k_is); (case k => k_is)))
    (case a_fn_first_wrong => k_is)
    (case m_first_wrong => (refine' My.mk_first_wrong ?l ?c ?k; (case l => k_is); (case c => k_is); (case k => k_is)))
    (case a_fn_Form_init => k_is)
    (case i_Form_init => k_is)
    (case kp_Form_init => k_is)
    (case m_Form_init => (refine' My.mk_Form_init ?l ?c ?k; (case l => k_is); (case c => k_is); (case k => k_is)))
    (case a_fn_Grammar_init => k_is)
    (case i_Grammar_init => k_is)
    (case kp_Grammar_init => k_is)
    (case m_Grammar_init => (refine' My.mk_Grammar_init ?l ?c ?k; (case l => k_is); (case c => k_is); (case k => k_is)))
    (case a_fn_checked_forms => k_is)
    (case m_checked_forms => (refine' My.mk_checked_forms ?l ?c ?k; (case l => k_is); (case c => k_is); (case k => k_is)))
    (case a_fn_written => k_is)
    (case m_written => (refine' My.mk_written ?l ?c ?k; (case l => k_is); (case c => k_is); (case k => k_is)))
    (case a_fn_Book_init => k_is)
    (case i_Book_init => k_is)
    (case kp_Book_init => k_is)
    (case m_Book_init => (refine' My.mk_Book_init ?l ?c ?k; (case l => k_is); (case c => k_is); (case k => k_is)))
    (case a_fn_Grammar_is_line => k_is)
    (case i_Grammar_is_line => k_is)
    (case kp_Grammar_is_line => k_is)
    (case m_Grammar_is_line => (refine' My.mk_Grammar_is_line ?l ?c ?k; (case l => k_is); (case c => k_is); (case k => k_is)))
    (case a_fn_Grammar_is_entry => k_is)
    (case i_Grammar_is_entry => k_is)
    (case kp_Grammar_is_entry => k_is)
    (case m_Grammar_is_entry => (refine' My.mk_Grammar_is_entry ?l ?c ?k; (case l => k_is); (case c => k_is); (case k => k_is)))
    (case a_fn_ones => k_is)
    (case m_ones => (refine' My.mk_ones ?l ?c ?k; (case l => k_is); (case c => k_is); (case k => k_is)))
    (case a_fn_check_length => k_is)
    (case m_check_length => (refine' My.mk_check_length ?l ?c ?k; (case l => k_is); (case c => k_is); (case k => k_is)))
    (case a_fn_check_entries => k_is)
    (case m_check_entries => (refine' My.mk_check_entries ?l ?c ?k; (case l => k_is); (case c => k_is); (case k => k_is)))
    (case a_fn_check_words => k_is)
    (case m_check_words => (refine' My.mk_check_words ?l ?c ?k; (case l => k_is); (case c => k_is); (case k => k_is)))
    (case a_fn_op_word => k_is)
    (case m_op_word => (refine' My.mk_op_word ?l ?c ?k; (case l => k_is); (case c => k_is); (case k => k_is)))
    (case a_fn_Book_form_named => k_is)
    (case i_Book_form_named => k_is)
    (case kp_Book_form_named => k_is)
    (case m_Book_form_named => (refine' My.mk_Book_form_named ?l ?c ?k; (case l => k_is); (case c => k_is); (case k => k_is)))
    (case a_fn_form_of => k_is)
    (case m_form_of => (refine' My.mk_form_of ?l ?c ?k; (case l => k_is); (case c => k_is); (case k => k_is)))
    (case a_fn_letters_told => k_is)
    (case m_letters_told => (refine' My.mk_letters_told ?l ?c ?k; (case l => k_is); (case c => k_is); (case k => k_is)))
    (case a_fn_Answers_init => k_is)
    (case i_Answers_init => k_is)
    (case kp_Answers_init => k_is)
    (case m_Answers_init => (refine' My.mk_Answers_init ?l ?c ?k; (case l => k_is); (case c => k_is); (case k => k_is)))
    (case a_fn_Answers_answer => k_is)
    (case i_Answers_answer => k_is)
    (case kp_Answers_answer => k_is)
    (case m_Answers_answer => (refine' My.mk_Answers_answer ?l ?c ?k; (case l => k_is); (case c => k_is); (case k => k_is)))
    (case a_fn_answer_at => k_is)
    (case m_answer_at => (refine' My.mk_answer_at ?l ?c ?k; (case l => k_is); (case c => k_is); (case k => k_is)))
    (case a_fn_Doing_init => k_is)
    (case i_Doing_init => k_is)
    (case kp_Doing_init => k_is)
    (case m_Doing_init => (refine' My.mk_Doing_init ?l ?c ?k; (case l => k_is); (case c => k_is); (case k => k_is)))
    (case a_fn_Doing_told => k_is)
    (case i_Doing_told => k_is)
    (case kp_Doing_told => k_is)
    (case m_Doing_told => (refine' My.mk_Doing_told ?l ?c ?k; (case l => k_is); (case c => k_is); (case k => k_is)))
    (case a_fn_Doing_ask => k_is)
    (case i_Doing_ask => k_is)
    (case kp_Doing_ask => k_is)
    (case m_Doing_ask => (refine' My.mk_Doing_ask ?l ?c ?k; (case l => k_is); (case c => k_is); (case k => k_is)))
    (case a_fn_Doing_value => k_is)
    (case i_Doing_value => k_is)
    (case kp_Doing_value => k_is)
    (case m_Doing_value => (refine' My.mk_Doing_value ?l ?c ?k; (case l => k_is); (case c => k_is); (case k => k_is)))
    (case a_fn_Doing_stopped => k_is)
    (case i_Doing_stopped => k_is)
    (case kp_Doing_stopped => k_is)
    (case m_Doing_stopped => (refine' My.mk_Doing_stopped ?l ?c ?k; (case l => k_is); (case c => k_is); (case k => k_is)))
    (case a_fn_Doing_finished => k_is)
    (case i_Doing_finished => k_is)
    (case kp_Doing_finished => k_is)
    (case m_Doing_finished => (refine' My.mk_Doing_finished ?l ?c ?k; (case l => k_is); (case c => k_is); (case k => k_is)))
    (case a_fn_handed_over => k_is)
    (case m_handed_over => (refine' My.mk_handed_over ?l ?c ?k; (case l => k_is); (case c => k_is); (case k => k_is)))
    (case a_fn_check_answers => k_is)
    (case m_check_answers => (refine' My.mk_check_answers ?l ?c ?k; (case l => k_is); (case c => k_is); (case k => k_is)))
    (case a_fn_run_code => k_is)
    (case m_run_code => (refine' My.mk_run_code ?l ?c ?k; (case l => k_is); (case c => k_is); (case k => k_is)))
    (case a_fn_named => k_is)
    (case m_named => (refine' My.mk_named ?l ?c ?k; (case l => k_is); (case c => k_is); (case k => k_is)))
    (case a_fn_law_draws => k_is)
    (case m_law_draws => (refine' My.mk_law_draws ?l ?c ?k; (case l => k_is); (case c => k_is); (case k => k_is)))
    (case a_fn_law_take => k_is)
    (case m_law_take => (refine' My.mk_law_take ?l ?c ?k; (case l => k_is); (case c => k_is); (case k => k_is)))
    (case a_fn_law_word => k_is)
    (case m_law_word => (refine' My.mk_law_word ?l ?c ?k; (case l => k_is); (case c => k_is); (case k => k_is)))
    (case a_fn_law_is_int => k_is)
    (case m_law_is_int => (refine' My.mk_law_is_int ?l ?c ?k; (case l => k_is); (case c => k_is); (case k => k_is)))
    (case a_fn_law_letters => k_is)
    (case m_law_letters => (refine' My.mk_law_letters ?l ?c ?k; (case l => k_is); (case c => k_is); (case k => k_is)))
    (case a_fn_law_patterns => k_is)
    (case m_law_patterns => (refine' My.mk_law_patterns ?l ?c ?k; (case l => k_is); (case c => k_is); (case k => k_is)))
    (case a_fn_law_numbers_drawn => k_is)
    (case m_law_numbers_drawn => (refine' My.mk_law_numbers_drawn ?l ?c ?k; (case l => k_is); (case c => k_is); (case k => k_is)))
    (case a_fn_law_ops => k_is)
    (case m_law_ops => (refine' My.mk_law_ops ?l ?c ?k; (case l => k_is); (case c => k_is); (case k => k_is)))
    (case a_fn_law_is_code => k_is)
    (case m_law_is_code => (refine' My.mk_law_is_code ?l ?c ?k; (case l => k_is); (case c => k_is); (case k => k_is)))
    (case a_fn_law_line => k_is)
    (case m_law_line => (refine' My.mk_law_line ?l ?c ?k; (case l => k_is); (case c => k_is); (case k => k_is)))
    (case a_fn_law_lines => k_is)
    (case m_law_lines => (refine' My.mk_law_lines ?l ?c ?k; (case l => k_is); (case c => k_is); (case k => k_is)))
    (case a_fn_law_touched => k_is)
    (case m_law_touched => (refine' My.mk_law_touched ?l ?c ?k; (case l => k_is); (case c => k_is); (case k => k_is)))
    (case a_fn_law_refused => k_is)
    (case m_law_refused => (refine' My.mk_law_refused ?l ?c ?k; (case l => k_is); (case c => k_is); (case k => k_is)))
    (case a_fn_law_same_run => k_is)
    (case m_law_same_run => (refine' My.mk_law_same_run ?l ?c ?k; (case l => k_is); (case c => k_is); (case k => k_is)))
    (case a_fn_law_one_word => k_is)
    (case m_law_one_word => (refine' My.mk_law_one_word ?l ?c ?k; (case l => k_is); (case c => k_is); (case k => k_is)))
    (case a_fn_law => k_is)
    (case l_law => k_is)
    (case c_law => k_is)
    (case kp_law => k_is)
    (case pg_Form => k_is)
    (case hd_Form => k_is)
    (case po_Form => k_is)
    (case sa_Form => k_is)
    (case mkI_Form => k_is)
    (case kc_Form => k_is)
    (case nA_Form_name => k_is)
    (case nA_Form_patterns => k_is)
    (case nA_Form_lines => k_is)
    (case nA_Form_size => k_is)
    (case nA_Form_letters => k_is)
    (case nA_Form_effect => k_is)
    (case nA_Form_goto => k_is)
    (case nA_Form_fixed => k_is)
    (case pg_Grammar => k_is)
    (case hd_Grammar => k_is)
    (case po_Grammar => k_is)
    (case sa_Grammar => k_is)
    (case mkI_Grammar => k_is)
    (case kc_Grammar => k_is)
    (case nA_Grammar_letters => k_is)
    (case nA_Grammar_numbers => k_is)
    (case pg_Book => k_is)
    (case hd_Book => k_is)
    (case po_Book => k_is)
    (case sa_Book => k_is)
    (case mkI_Book => k_is)
    (case kc_Book => k_is)
    (case nA_Book_word => k_is)
    (case nA_Book_registers => k_is)
    (case nA_Book_forms => k_is)
    (case nA_Book__named => k_is)
    (case nA_Book__text => k_is)
    (case pg_Doing => k_is)
    (case hd_Doing => k_is)
    (case po_Doing => k_is)
    (case sa_Doing => k_is)
    (case mkI_Doing => k_is)
    (case kc_Doing => k_is)
    (case nA_Doing_form => k_is)
    (case nA_Doing_word => k_is)
    (case nA_Doing_letters => k_is)
    (case nA_Doing_place => k_is)
    (case nA_Doing_after => k_is)
    (case nA_Doing_regs => k_is)
    (case nA_Doing_words => k_is)
    (case pg_Answers => k_is)
    (case hd_Answers => k_is)
    (case po_Answers => k_is)
    (case sa_Answers => k_is)
    (case mkI_Answers => k_is)
    (case kc_Answers => k_is)
    (case nA_Answers_answers => k_is)
    (case nA_Answers_asks => k_is)
    (case ct_LETTERS => k_is)
    (case ct_REGISTER_LETTERS => k_is)
    (case ct_NUMBER_LETTERS => k_is)
    (case ct_MOST_FORMS => k_is)
    (case ct_MOST_PATTERNS => k_is)
    (case ct_MOST_LINES => k_is)
    (case ct_SMALL_LETTERS => k_is)
    (case ca_EFFECTS => k_is)
    (case cv_EFFECTS => (refine' My.tup_kit ?lk ?z ?v; (case lk => k_is); (case z => (show _ ≤ _; decide +kernel)); (case v => exact (.cons ⟨_, rfl⟩ (.cons ⟨_, rfl⟩ (.cons ⟨_, rfl⟩ .nil))))))
    (case ca_VALUES => k_is)
    (case cv_VALUES => (refine' My.tup_kit ?lk ?z ?v; (case lk => k_is); (case z => (show _ ≤ _; decide +kernel)); (case v => exact (.cons ⟨_, rfl⟩ (.cons ⟨_, rfl⟩ (.cons ⟨_, rfl⟩ (.cons ⟨_, rfl⟩ (.cons ⟨_, rfl⟩ (.cons ⟨_, rfl⟩ (.cons ⟨_, rfl⟩ (.cons ⟨_, rfl⟩ (.cons ⟨_, rfl⟩ (.cons ⟨_, rfl⟩ (.cons ⟨_, rfl⟩ (.cons ⟨_, rfl⟩ (.cons ⟨_, rfl⟩ .nil))))))))))))))))
    (case ca_ASKING => k_is)
    (case cv_ASKING => (refine' My.tup_kit ?lk ?z ?v; (case lk => k_is); (case z => (show _ ≤ _; decide +kernel)); (case v => exact (.cons ⟨_, rfl⟩ (.cons ⟨_, rfl⟩ (.cons ⟨_, rfl⟩ (.cons ⟨_, rfl⟩ .nil)))))))
    (case ca_ENTRIES => k_is)
    (case kt_ENTRIES => (refine' My.kt_of ?lk ?kk ?lo ?v; (case lk => k_is); (case kk => k_keys); (case lo => decide); (case v => exact (.cons rfl ⟨_, rfl⟩ (.cons rfl ⟨_, rfl⟩ (.cons rfl ⟨_, rfl⟩ (.cons rfl ⟨_, rfl⟩ (.cons rfl ⟨_, rfl⟩ (.cons rfl ⟨_, rfl⟩ (.cons rfl ⟨_, rfl⟩ (.cons rfl ⟨_, rfl⟩ (.cons rfl ⟨_, rfl⟩ (.cons rfl ⟨_, rfl⟩ (.cons rfl ⟨_, rfl⟩ (.cons rfl ⟨_, rfl⟩ (.cons rfl ⟨_, rfl⟩ (.cons rfl ⟨_, rfl⟩ (.cons rfl ⟨_, rfl⟩ (.cons rfl ⟨_, rfl⟩ (.cons rfl ⟨_, rfl⟩ (.cons rfl ⟨_, rfl⟩ .nil)))))))))))))))))))))
    (case ca_REFUSED => k_is)
    (case kt_REFUSED => (refine' My.kt_of ?lk ?kk ?lo ?v; (case lk => k_is); (case kk => k_keys); (case lo => decide); (case v => exact (.cons rfl ⟨_, rfl⟩ (.cons rfl ⟨_, rfl⟩ .nil)))))
    (case z_len => k_is)
    (case z_list => k_is)
    (case z_tuple => k_is)
    (case z_int => k_is)
    (case z_str => k_is)
    (case z_min => k_is)
    (case z_range => k_is)
    (case z_isinstance => k_is)
    (case z_bool => k_is)
    (case z_sum => k_is)
    (case z_all => k_is)
    (case z_any => k_is)
    (case z_enumerate => k_is)
    (case z_zip => k_is)
    (case z_reversed => k_is)
    (case z_sorted => k_is)
    (case xe_BadWords => kx_is)
    (case xsa_BadWords => k_is)
    (case xk_BadWords => k_is)
    (case xb_BadWords => k_is)
    (case xt_BadWords => k_is)
    (case xi_BadWords => k_is)
    (case xs_BadWords => k_is)
    (case xhd_BadWords => k_is)
    (case xga_BadWords => k_is)
    (case xgg_BadWords => k_is)
    (case xca_BadWords => k_is)
    (case xcm_BadWords => k_is)
    (case xnf_BadWords => k_is)
    (case xe_BadSource => kx_is)
    (case xsa_BadSource => k_is)
    (case xk_BadSource => k_is)
    (case xb_BadSource => k_is)
    (case xt_BadSource => k_is)
    (case xi_BadSource => k_is)
    (case xs_BadSource => k_is)
    (case xhd_BadSource => k_is)
    (case xga_BadSource => k_is)
    (case xgg_BadSource => k_is)
    (case xca_BadSource => k_is)
    (case xcm_BadSource => k_is)
    (case xnf_BadSource => k_is)
    (case xcn => k_is)
    (case xct => k_is)
    (case xci_BadWords => k_is)
    (case xcty_BadWords => k_is)
    (case ks_BadSource_BadWords => k_is)
