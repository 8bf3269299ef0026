import PyProof.Rows.All
import Wide.All
import OpenK.AllK
import Wide.FinOn
import HandS.ForMost
import HandS.DictComp
import HandS.Style
import HandS.More
import HandS.Conv
import HandS.Wide
import HandS.ListItems
import HandS.Steps
import HandS.Finally
import HandS.Evl
import PySem.Challenge.RW_strikehall_k30_sayings_put
set_option Elab.async false
set_option linter.all false
set_option maxRecDepth 100000
set_option maxHeartbeats 2000000
/-! Rules of ours: repr of data; calls of defs that run where no repr runs. -/
namespace Sg
open PySem PySem.Spec PyProof.Rows L2

/-! ### repr of data -/
def rRepr (K : PySem.W.Frag) : List V → Hp → VK → Prop := fun xs H Q =>
  ∃ (a : Addr) (d : PyData), xs = [.ref a] ∧ Dp K H (.ref a) d ∧ d.showable = true ∧ d.hasDict = false ∧ d.depth ≤ 60 ∧ d.shown.length ≤ sizeLine ∧ Q (.str d.shown) H
theorem call_reprD {X : Cx} (hg : X.A.guards = some []) (hu : X.A.units + 64 < cLine) : CallR X (.builtin "repr") (rRepr X.K) := by
  intro pins s σ H xs us Q I r ⟨a, d, e, hd, h1, h2, h3, h4, q⟩
  subst e
  obtain ⟨u, rfl, rr⟩ := vals1 r
  cases rr
  obtain ⟨as, rd⟩ := Dp.reads I d _ _ hd rfl
  refine repr_of_reads' rd h1 (fun z => absurd z (by rw [h2]; decide)) hg (by omega) (fun _ _ z => z) (fun h' u tk k => ?_) h4
  exact ⟨.str d.shown, H, I.kept (t' := tk) k, ⟨_, rfl⟩, q⟩

/-! ### a def that runs where no repr runs -/
structure FnG (P : Program) (w : World) (K : PySem.W.Frag) (mg : Str → Option Value) (base : Heap) (CX : CXT) (k : Nat) (f : Addr)
    (fd : FuncData) (ps : List Str) (sp : Sp) : Prop where
  size : ∀ xs G R F, sp xs G R F → xs.length = ps.length
  runs : ∀ (B : Around) (fr : List Env) (st : Shared) (G : Hp) (ar : Args) (ws : List Value) (xs : List V) (R : VK) (F : XK), B.guards = some [] →
    Room k B → Env0 P w K mg base B fr st G → BindsTo st fd ar (ps.zip ws) → Vals xs ws → sp xs G R F →
      codeAny (model P w) B (.call (.ref f) ar) (CR CX fr P w G st R F) st
theorem deeper_guards {B : Around} {env : Env} (h : B.guards = some []) : (B.deeper env).guards = some [] := h

section
variable {P : Program} {w : World} {K : PySem.W.Frag} {mg : Str → Option Value} {base : Heap}
theorem FnG.of {CX : CXT} {k : Nat} {f : Addr} {fd : FuncData} {ps : List Str} {sp : Sp} (F : FnOk P w K mg base CX k f fd ps sp) : FnG P w K mg base CX k f fd ps sp :=
  ⟨F.len, fun B fr st G ar ws xs R E _ => F.run B fr st G ar ws xs R E⟩
theorem fnG_of {x qual : Str} {st : Stmt} {f : Addr} {fd : FuncData} {N ps : List Str} {k : Nat} {sp : Sp} (F : Fun K x qual st f fd) (S : FnScope N ps (defScope st))
    (size : ∀ xs G R E, sp xs G R E → xs.length = ps.length)
    (body : ∀ (cdv : Value) (B : Around) (fr : List Env) (s : Shared) (G : Hp) (xs : List V) (R : VK) (E : XK), B.guards = some [] →
      Room k (B.deeper (envOfC qual (defScope st) s.heap.objs.size f cdv)) → sp xs G R E →
      ∃ t, PSs (cxOf CX0 P w K mg base N qual (defScope st) f cdv B fr s G E).nox (defBody st) t ∧ t { nx := fun _ H' => R .non H', rt := R } (start N xs) G) :
    FnG P w K mg base CX0 (k + 1) f fd ps sp := by
  obtain ⟨oc, od, kV, doc, pm, an, cdv, ct, osl, rfl, lk, hcd⟩ := F.ex
  constructor
  · exact size
  · intro B fr st0 G ar ws xs R E hg hr e0 hb r hsp
    have hl := size _ _ _ _ hsp
    have KX : K.In st0.heap := e0.mod.kin.keeps fun b o e => (e0.bs b o e).1
    have lim : st0.heap.NoLimit := e0.mod.nolimit.keeps fun b o e => (e0.bs b o e).1
    have kinds : ∀ y ∈ ps.zip ws, (defScope st).names.lookup y.1 = some .local ∨
        ((defScope st).names.lookup y.1 = some .cell ∧ ((cellsFrom (st0.heap.objs.size + 1) (defScope st).names []).lookup y.1).isSome = true) := by
      intro y hy
      rcases S.par y.1 (List.of_mem_zip (a := y.1) (b := y.2) hy).1 with q | q
      · exact .inl q
      · exact .inr ⟨q, PySem.W.cellsFrom_some _ _ _ (.inl q)⟩
    refine codeAny_call_function hr.depth (KX _ _ lk) rfl S.co S.gen rfl (PySem.W.codeRec_of KX hcd) (hb _ _ _ _ ?_)
    refine wpAny_newFunctionEnv_cells S.kind kinds fun env he s1 x => ?_
    subst he
    refine ⟨lim.keeps x.toInCall.keep, codeAny_func ?_⟩
    obtain ⟨t, ht, hq⟩ := body cdv B fr st0 G xs R E hg (hr.deeper _) hsp
    have I := inv_start (CX := CX0) (E := E) S hr.hd e0 hl r x
    refine wpAny_mono (ht.nox.run [] s1 (start N xs) G _ I hq) (fun fl s' hs => ?_) fun e s' hs => hs
    cases fl with
    | ret u =>
      obtain ⟨v, σ', H', J, rv, q⟩ := hs
      exact ⟨v, H', J.os, J.bare, J.base, J.hok, rv, q⟩
    | next =>
      obtain ⟨σ', H', J, q⟩ := hs
      exact ⟨V.non, H', J.os, J.bare, J.base, J.hok, rfl, q⟩
    | brk =>
      obtain ⟨_, _, _, q⟩ := hs
      exact q.elim
    | cont =>
      obtain ⟨_, _, _, q⟩ := hs
      exact q.elim
end
/-- the law's own def is called where no repr runs -/
theorem lawG {P : Program} {w : World} {K : PySem.W.Frag} {mg mb : Str → Option Value} {k : Nat} {fa a : Addr} {fd : FuncData} {x : Str} {sp : Sp} {s1 : Shared} {vs : List Value} {ns : List Int}
    (KX : K.In s1.heap) (hns : s1.heap.Ns mainGlobals mg) (hb : s1.heap.Ns builtinsNs mb) (hbb : ∀ x : Str, x ≠ "__name__" → mb x = bootBuiltins x)
    (lim : s1.heap.NoLimit) (hg : s1.gens = #[]) (ha : s1.heap.get? a = some { cls := .type "list", data := .seq vs.toArray }) (hi : IntsAre vs ns)
    (hl : ns.length ≤ sizeLine) (hr : Room k callerA) (F : ∀ base : Heap, K.In base → base.Ns mainGlobals mg → FnG P w K mg base CX0 k fa fd [x] sp)
    (hbind : ∀ (s : Shared) (u : Value), BindsTo s fd ⟨[u], []⟩ [(x, u)])
    (hsp : ∀ H : Hp, Only H → SqL K H a (ns.map V.int) → sp [.ref a] H (fun v _ => v = .bl true) fun _ _ _ => False) :
    codeAny (model P w) callerA (.call (.ref fa) ⟨[.ref a], []⟩)
      (fun r s' => r = .ok (.ret (.bool true)) ∧ OldK s1.heap s'.heap ∧ s'.os = s1.os ∧ AllBare s'.gens) s1 := by
  have rv := vals_ints hi
  have lenV := hi.length
  have core : ∀ H : Hp, Only H → SqL K H a (ns.map V.int) → HOk P w H s1.heap → (∀ b u, H b = some u → b = a ∧ K.lookup a = none) →
      codeAny (model P w) callerA (.call (.ref fa) ⟨[.ref a], []⟩)
        (fun r s' => r = .ok (.ret (.bool true)) ∧ OldK s1.heap s'.heap ∧ s'.os = s1.os ∧ AllBare s'.gens) s1 := by
    intro H hO hS hok hA
    have dicts : ∀ {b : Addr} {m : Str → Option Value}, s1.heap.Ns b m → (hidT s1.heap H).Ns b m := by
      intro b m ⟨o, es, ep, e, d, r⟩
      refine ⟨o, es, ep, hidT_get e ?_, d, r⟩
      cases q : H b with
      | none => rfl
      | some u =>
        obtain ⟨e', _⟩ := hA b u q
        rw [e', ha] at e
        cases e
        exact (nomatch d)
    have hKb : K.In (hidT s1.heap H) := fun b o e => hidT_get (KX b o e) (by
      cases q : H b with
      | none => rfl
      | some u =>
        obtain ⟨e', n⟩ := hA b u q
        rw [e', n] at e
        cases e)
    have hM : Mod K mg (hidT s1.heap H) := ⟨hKb, dicts hns, ⟨mb, dicts hb, hbb⟩, by obtain ⟨mc, h1, h2⟩ := lim; exact ⟨mc, dicts h1, h2⟩⟩
    have e0 : Env0 P w K mg (hidT s1.heap H) callerA [] s1 H :=
      ⟨rfl, hM, fun b o e => of_hidT e, Nat.le_of_eq (hidT_size _ _), trivial, fun b z => (nomatch z), hok, .of_eq hg⟩
    have go := (F _ hKb (dicts hns)).runs callerA [] s1 H ⟨[.ref a], []⟩ [.ref a] [.ref a] _ _ rfl hr e0 (hbind s1 (.ref a)) (.cons rfl .nil) (hsp H hO hS)
    refine codeAny_mono go fun r s' h => ?_
    match r, h with
    | .error e, h => exact h.elim
    | .ok .next, h => exact h.elim
    | .ok .brk, h => exact h.elim
    | .ok .cont, h => exact h.elim
    | .ok (.ret u), ⟨v, H', os, bare, un, hok', r', q⟩ =>
      have q' : v = .bl true := q
      subst q'
      obtain rfl : u = Value.bool true := r'
      refine ⟨rfl, OldK.of_keep fun b o e => ?_, os, bare⟩
      cases q : H b with
      | none => exact un.keep b o e q (fun z => nomatch z) (fun z => nomatch z)
      | some u =>
        rcases hO b with z | ⟨ob, xs, z⟩
        · rw [q] at z; cases z
        · obtain ⟨e1, _⟩ := hok b _ z
          obtain ⟨e2, _⟩ := hok' b _ (un.frzs b ob _ z)
          rw [e] at e1; cases e1
          exact e2
  cases hk : K.lookup a with
  | some o =>
    have e := KX a o hk
    rw [ha] at e
    cases e
    exact core (fun _ => none) (fun _ => .inl rfl) (.inr ⟨_, vs.toArray, _, hk, rfl, rfl, rfl, by rw [List.size_toArray, lenV]; exact hl, by simpa using rv⟩)
      (fun b u z => nomatch z) (fun b u z => nomatch z)
  | none =>
    have at_ : ∀ b u, (if b = a then some (HO.frz { cls := .type "list", data := .seq vs.toArray } (.lst (ns.map V.int))) else none) = some u → b = a ∧ HO.frz { cls := .type "list", data := .seq vs.toArray } (.lst (ns.map V.int)) = u := by
      intro b u z
      by_cases hb : b = a
      · rw [if_pos hb] at z; exact ⟨hb, Option.some.inj z⟩
      · rw [if_neg hb] at z; cases z
    refine core (fun b => if b = a then some (.frz { cls := .type "list", data := .seq vs.toArray } (.lst (ns.map V.int))) else none) (fun b => ?_)
      (.inl (.inr ⟨{ cls := .type "list", data := .seq vs.toArray }, if_pos rfl⟩)) (fun b u z => ?_) (fun b u z => ⟨(at_ b u z).1, hk⟩)
    · by_cases hb : b = a
      · exact .inr ⟨_, _, if_pos hb⟩
      · exact .inl (if_neg hb)
    · obtain ⟨e1, e2⟩ := at_ b u z
      subst e1 e2
      exact ⟨ha, by rw [List.length_map]; exact hl, vs, _, rv, ha⟩
/-- the head's goal, from the law's promise -/
theorem walkG {l : PySem.W.OpenLaw} {n k : Nat} {q : Program} {loose : List Str} {XP : (Str → Option Value) → Heap → Prop} {YP : World → Heap → Prop} {d : DefRec} {K : Params → PySem.W.Frag}
    {sp : PySem.W.Frag → Sp} {x : Str} (hn : l.most = some n) (hn2 : n ≤ sizeLine) (hdf : d.params.defaults = []) (hr : Room k callerA) (hY : ∀ (w : World) (h : Heap), YP w h → (K w.params).In h)
    (F : ∀ (w : World) (mg : Str → Option Value) (fa : Addr) (h : Heap), (K w.params).In h → h.Ns mainGlobals mg → mg d.name = some (.ref fa) →
      ∃ fd : FuncData, (∀ (s : Shared) (u : Value), BindsTo s fd ⟨[u], []⟩ [(x, u)]) ∧
        ∀ base : Heap, (K w.params).In base → base.Ns mainGlobals mg → FnG l.prog w (K w.params) mg base CX0 k fa fd [x] (sp (K w.params)))
    (hsp : ∀ (K : PySem.W.Frag) (H : Hp) (a : Addr) (ns : List Int), ns.length ≤ n → Only H → SqL K H a (ns.map V.int) → sp K [.ref a] H (fun v _ => v = .bl true) fun _ _ _ => False) :
    PySem.W.WalkO q loose XP YP l.row.toRowW d [] (fun f vs => PySem.call f vs) := by
  refine Att.attach_call hn hdf fun w s0 s1 mg mb fa o pm cd doc a vs ns G Y ho hd hcd hmg hobj hints hlen hg => ?_
  have KX := hY w _ Y
  obtain ⟨fd, hb, hF⟩ := F w mg fa _ KX G.T.g hmg
  exact lawG KX G.T.g G.T.b G.T.builtins G.T.nolimit hg hobj hints (Nat.le_trans hlen hn2) hr hF hb (fun H hO hS => hsp (K w.params) H a ns hlen hO hS)

/-! ### calls of such defs -/
section
variable {X : Cx} {k : Nat} {f : Addr} {fd : FuncData} {ps : List Str} {sp : Sp} {x : Str} {p pos : Pos} {e : Expr} {es : List Expr} {t : TA}
theorem pe_callG (F : FnG X.prog X.w X.K X.mg X.base CX0 k f fd ps sp) (hgd : X.A.guards = some []) (hr : Room k X.A) (hg : Gl X x) (hm : X.mg x = some (.ref f))
    (hk : PySem.W.keepIn X.K (.ref f) = true) (hb : Binds X.K fd ps []) (ha : PA X (e :: es) t) (hdb : (x == ("__debug__" : Str)) = false := by decide)
    (he : starEach (e :: es) X.env = (false, eval e X.env) :: starEach es X.env := by rfl) (hpl : (backTo pos (starEach es X.env)).any (·.1) = false := by rfl) :
    PE X (.Call (.Name x p) (e :: es) [] pos) (tCall sp [] E0 t) := by
  constructor
  intro pins s σ H Q I h
  refine wpAny_Call_Name_kw (ld_glob I hg hm ?_ hdb)
  refine PySem.W.callWith_K (h₀ := X.base) I.ok.mod.kin hk (thn (ha.run pos pins s σ H _ I h) fun us s1 ⟨vs, H1, I1, r, q⟩ => ⟨I1.kIn, ?_⟩) he hpl
  have q : sp (vs ++ []) H1 Q E0 := q
  rw [List.append_nil] at q
  have hl : us.length = ps.length := by rw [← r.length]; exact F.size _ _ _ _ q
  have bt := hb s1 us I1.kIn (by rw [List.append_nil]; exact hl)
  rw [List.append_nil] at bt
  refine wpAny_call (codeAny_mono (F.runs X.A X.stack s1 H1 ⟨us, []⟩ us vs Q E0 hgd hr I1.env0 bt r q) fun y s' hq => ?_)
  match y, hq with
  | .error _, hq => exact hq.elim
  | .ok (.ret u), hq => exact I1.after hq
  | .ok .next, hq => exact hq.elim
  | .ok .brk, hq => exact hq.elim
  | .ok .cont, hq => exact hq.elim
end
end Sg
set_option Elab.async false
set_option linter.all false
set_option maxRecDepth 100000
set_option maxHeartbeats 2000000
namespace Sg
open PySem PySem.Spec PyProof.Rows L2
section
variable {X : Cx}
/-! ### text * int -/
def rMulS : R2 := fun x y H Q => ∃ (a : Str) (n : Int), x = .str a ∧ y = .int n ∧ 0 ≤ n ∧ n ≤ 1000 ∧ a.length ≤ 1000 ∧ Q (.str (Txt.mul a n)) H
theorem op_mulS : OpR X (binaryOp .Mult) rMulS := by
  intro pins s σ H x y v u Q I rx ry ⟨a, n, e1, e2, h0, h1, h2, q⟩
  subst e1 e2
  obtain ⟨t, rfl⟩ := rx
  obtain ⟨t', rfl⟩ := ry
  refine SB.mul ⟨?_, fun h3 _ => ?_, fun _ _ => ?_⟩ fun t2 k => ⟨.str _, H, I.tok k, ⟨_, rfl⟩, q⟩
  · rw [decide_eq_false (by omega), decide_eq_false (by omega)]; rfl
  · have h4 : (1000 : Int) ≤ (2 ^ 63 - 1) / n := by
      rw [Int.le_ediv_iff_mul_le (by omega)]
      omega
    omega
  · have h5 : a.length * n.toNat ≤ 1000 * 1000 := Nat.mul_le_mul h2 (by omega)
    have h6 : a.length * n.toNat ≤ sizeLine := by rw [sizeLine_eq]; omega
    unfold PySem.Builtin.Str.tooLong
    exact decide_eq_false (by omega)
/-! ### t[::-1] of a tuple -/
section
variable {P : Program} {w : World} {A : Around} {E : Value → Shared → Prop} {s : Shared}
theorem back_adjust (n : Nat) : Builtin.Slice.sliceAdjust none none (-1) (n : Int) = ((n : Int) - 1, -1) := by
  simp [Builtin.Slice.sliceAdjust]
theorem back_places (n : Nat) : Builtin.Slice.slicePlaces ((n : Int) - 1) (-1) (-1) = n := by
  unfold Builtin.Slice.slicePlaces
  rw [if_neg (by decide)]
  by_cases h : n = 0
  · subst h; decide
  · rw [if_pos (by omega)]
    have : ((n : Int) - 1 - -1 - 1) / (- -1) + 1 = n := by
      rw [show (- -1 : Int) = 1 by decide, Int.ediv_one]; omega
    rw [this]; exact Int.toNat_natCast n
theorem back_applied {sl : Addr} {c : Value} {n : Nat} {Q : Int × Int × Nat → Shared → Prop} (hs : s.heap.IsSliceOf sl .none .none c) (pc : IsPart c (some (-1)))
    (h : Q ((n : Int) - 1, -1, n) s) : wpAny (model P w) A (Builtin.Slice.sliceApplied (.ref sl) (pure (n : Int))) Q E s := by
  obtain ⟨os, hos, hcs, hds⟩ := hs
  unfold Builtin.Slice.sliceApplied Builtin.Slice.sliceFields
  refine wpAny_bind (wpAny_bind (wpAny_field hos hds (x := .none) rfl (wpAny_bind (wpAny_field hos hds (x := .none) rfl
    (wpAny_bind (wpAny_field hos hds (x := c) rfl (wpAny_pure ?_)))))))
  refine wpAny_bind (HT.slicePart_ pc ?_)
  show wpAny _ _ (if ((-1 : Int) == 0) = true then _ else _) _ _ s
  rw [if_neg (by decide)]
  refine wpAny_bind (slicePart_none (wpAny_bind (slicePart_none (wpAny_bind (wpAny_pure ?_)))))
  show wpAny _ _ (match Builtin.Slice.sliceAdjust none none (-1) (n : Int) with | (lo, hi) => pure (lo, (-1 : Int), Builtin.Slice.slicePlaces lo hi (-1))) _ _ s
  rw [back_adjust]
  show wpAny _ _ (pure ((n : Int) - 1, (-1 : Int), Builtin.Slice.slicePlaces ((n : Int) - 1) (-1) (-1))) _ _ s
  rw [back_places]
  exact wpAny_pure h
theorem back_pick (xs : Array Value) : ((List.range xs.size).filterMap fun (m : Nat) => xs[(((xs.size : Int) - 1) + (m : Int) * (-1)).toNat]?).toArray = xs.toList.reverse.toArray := by
  have e2 : (List.range xs.size).filterMap (fun (m : Nat) => xs[(((xs.size : Int) - 1) + (m : Int) * (-1)).toNat]?) =
      ((List.range xs.size).map (fun (m : Nat) => (((xs.size : Int) - 1) + (m : Int) * (-1)).toNat)).filterMap (xs[·]?) := by
    rw [List.filterMap_map]; rfl
  have e3 : (List.range xs.size).map (fun (m : Nat) => (((xs.size : Int) - 1) + (m : Int) * (-1)).toNat) = (List.range xs.size).map fun k => xs.size - 1 - k := by
    apply List.map_congr_left
    intro m hm
    have := List.mem_range.mp hm
    omega
  rw [e2, e3, PySem.W.krv_range, List.filterMap_reverse, PySem.W.krv_all]
theorem back_item {t sl : Addr} {items : Array Value} {c : Value} {Q : Value → Shared → Prop} (ht : IsTup s.heap t items) (hs : s.heap.IsSliceOf sl .none .none c)
    (pc : IsPart c (some (-1))) (h : Q (.ref s.heap.objs.size) { s with heap := s.heap.push { cls := .type "tuple", data := .seq items.toList.reverse.toArray } }) (hsz : items.size ≤ sizeLine) :
    wpAny (model P w) A (getItem (.ref t) (.ref sl)) Q E s := by
  have room : sizeOk (.seq items.toList.reverse.toArray) := by
    show items.toList.reverse.toArray.size ≤ sizeLine
    rw [List.size_toArray, List.length_reverse, Array.length_toList]
    exact hsz
  obtain ⟨os, hos, hcs, hds⟩ := id hs
  have hTs : s.TypeIs (.ref sl) "slice" := ⟨os, hos, hcs⟩
  unfold getItem
  try with_reducible refine wpAny_holding ?_
  first | refine wpAny_bind (wpAny_pure ?_) | skip
  refine wpAny_bind (wpAny_sequenceKey ht.typeIs (by decide) ?_)
  refine wpAny_bind (wpAny_callSpecial?_slot (name := Str.ofString "__getitem__") ht.typeIs PyProof.Rows.slot_tuple_getitem
    (wpAny_call_entry PyProof.Rows.slot_tuple_getitem ht.typeIs entry_tuple_getitem ?_ (args_tuple_getitem _ _)))
  show wpAny _ _ (Builtin.Tuple.tupleItemsOf (.ref t) >>= _) _ _ s
  refine wpAny_bind (tupleItemsOf_ ht ?_)
  refine wpAny_bind (wpAny_typeOf hTs ?_)
  rw [if_pos (by decide)]
  refine wpAny_bind (back_applied hs pc ?_)
  have no : ¬ ((((items.size : Int) - 1) == 0 && (-1 : Int) == 1 && items.size == items.size) = true) := by
    intro q
    rw [Bool.and_eq_true, Bool.and_eq_true] at q
    exact absurd q.1.2 (by decide)
  show wpAny _ _ (if (((items.size : Int) - 1) == 0 && (-1 : Int) == 1 && items.size == items.size) = true then _ else _) _ _ s
  rw [if_neg no, back_pick]
  first
    | exact wpAny_bind (m := Builtin.Tuple.tupleExact _) (wpAny_newObj_type (wpAny_pure ⟨_, rfl, wpAny_pure h⟩) room)
    | exact wpAny_bind (m := Builtin.Tuple.tupleExact _) (wpAny_newObj_type (wpAny_bind (wpAny_pure (wpAny_pure ⟨_, rfl, wpAny_pure h⟩))) room)
    | exact wpAny_bind (wpAny_bind (m := Builtin.Tuple.tupleExact _) (wpAny_newObj_type (wpAny_pure (wpAny_pure ⟨_, rfl, wpAny_pure h⟩)) room))
end
def tRevT (K : PySem.W.Frag) (te : TE) : TE := fun σ H Q => te σ H fun x H1 => ∃ a xs, x = .ref a ∧ SqT K H1 a xs ∧ ∀ p, H1 p = none → Q (.ref p) (upd H1 p (.tup xs.reverse))
theorem pe_revT {e : Expr} {te : TE} {k : Nat} {p1 p2 p3 pos : Pos} (he : PE X e te) :
    PE X (.Subscript e (.Slice none none (some (.UnaryOp .USub (.Constant (.int 1) k p1) p2)) p3) pos) (tRevT X.K te) := by
  constructor
  intro pins s σ H Q I h
  refine Subscript_ (thn (he.run pins s σ H _ I h) fun v s1 ⟨x, H1, I1, r1, a, xs, ex, hx, q⟩ => ?_)
  subst ex
  cases r1
  have hst : PO X (some (.UnaryOp .USub (.Constant (.int 1) k p1) p2)) (tPart (tUn (rU fun i => .int (-i)) (tC (.int 1)))) := po_some (pe_un un_neg pe_int)
  refine wpAny_Slice (thn (po_none.run pins s1 σ H1 (fun o H2 => o = none ∧ H2 = H1) I1 ⟨rfl, rfl⟩) fun vl s2 ⟨l, H2, I2, pl, el, e2⟩ => ?_)
  subst el e2
  refine thn (po_none.run pins s2 σ H2 (fun o H3 => o = none ∧ H3 = H2) I2 ⟨rfl, rfl⟩) fun vu s3 ⟨u, H3, I3, pu, eu, e3⟩ => ?_
  subst eu e3
  refine thn (hst.run pins s3 σ H3 (fun o H4 => o = some (-1) ∧ H4 = H3) I3 ⟨1, rfl, -1, rfl, rfl, rfl⟩) fun vs s4 ⟨o, H4, I4, ps, eo, e4⟩ => ?_
  subst eo e4
  cases pl
  cases pu
  have I5 := I4.kept (t' := s4.toks) (h' := s4.heap.push { cls := .type "slice", data := .fields #[.none, .none, vs] }) fun b ob q => Heap.get?_push_of_some _ q
  obtain ⟨its, r, ht, hz⟩ := I5.tuple hx
  have hlen := r.length
  refine tail_any (ops := [.ref a, .ref s4.heap.objs.size]) ht.typeIs (PyProof.Rows.slot_tuple_getitem.lookup) ?_ (by with_unfolding_all rfl)
  refine back_item ht (Heap.IsSliceOf.new _ .none .none vs) ps ?_ (by rw [List.size_toArray]; omega)
  refine ⟨.ref _, _, I5.laid (t' := s4.toks) (o := .tup xs.reverse) (fun b ob q => Heap.get?_push_of_some _ q) (Nat.le_refl _) ?_, rfl, q _ (I5.hok.fresh (Nat.le_refl _))⟩
  exact ⟨by rw [List.length_reverse]; exact hz, its.reverse, r.reverse, ⟨_, Heap.get?_push_size _ rfl, rfl, _, rfl⟩⟩
end
end Sg
set_option Elab.async false
set_option linter.all false
set_option maxRecDepth 100000
set_option maxHeartbeats 2000000
namespace Sg
open PySem PySem.Spec PyProof.Rows L2
/-! ### values that leave the heap as it is -/
theorem val_go {te : TE} {σ : L2.St} {H : Hp} {v : V} {Q : VK} (h : Val te σ H v) (q : Q v H) : te σ H Q := h Q q
theorem val_op0 {ta tb : TE} {σ : L2.St} {H : Hp} {g : Int → Int → V} {i j : Int} (ha : Val ta σ H (.int i)) (hb : Val tb σ H (.int j)) : Val (tOp (rI0 g) ta tb) σ H (g i j) :=
  fun Q q => ha _ (hb _ ⟨i, j, rfl, rfl, q⟩)
theorem val_opC {ta tb : TE} {σ : L2.St} {H : Hp} {C : Int → Int → Prop} {g : Int → Int → V} {i j : Int} (ha : Val ta σ H (.int i)) (hb : Val tb σ H (.int j)) (hc : C i j) : Val (tOp (rI C g) ta tb) σ H (g i j) :=
  fun Q q => ha _ (hb _ ⟨i, j, rfl, rfl, hc, q⟩)
theorem val_un {ta : TE} {σ : L2.St} {H : Hp} {g : Int → V} {i : Int} (ha : Val ta σ H (.int i)) : Val (tUn (rU g) ta) σ H (g i) := fun Q q => ha _ ⟨i, rfl, q⟩
theorem mulL {i j : Int} (h : -(2 ^ 64) < i ∧ i < 2 ^ 64) : CMul i j := .inl h
theorem go_set {te : TE} {σ : L2.St} {H : Hp} {v : V} {D : Ends} {u : TS} {i : Nat} (h : Val te σ H v) (q : u D (σ.set i (some v)) H) : tSeq (tAsg te (gName i)) u D σ H := h _ q
theorem go_ret {te : TE} {σ : L2.St} {H : Hp} {v : V} {D : Ends} (h : Val te σ H v) (q : D.rt v H) : tRet te D σ H := h _ q
theorem go_if {t : TT} {σ : L2.St} {H : Hp} {b : Bool} {D : Ends} {a c : TS} {u : TS} (h : Ans t σ H b) (q1 : b = true → a { D with nx := u D } σ H) (q2 : b = false → c { D with nx := u D } σ H) : tSeq (tIfS t a c) u D σ H := by
  refine h _ ?_
  cases b with
  | true => exact q1 rfl
  | false => exact q2 rfl
theorem go_when {t : TT} {σ : L2.St} {H : Hp} {b : Bool} {D : Ends} {a : TS} {u : TS} (h : Ans t σ H b) (q1 : b = true → a { D with nx := u D } σ H) (q2 : b = false → u D σ H) : tSeq (tIfS t a tNext) u D σ H :=
  go_if h q1 q2
theorem val_ifE {t : TT} {ta tb : TE} {σ : L2.St} {H : Hp} {b : Bool} {v : V} (h : Ans t σ H b) (h1 : b = true → Val ta σ H v) (h2 : b = false → Val tb σ H v) : Val (tIf t ta tb) σ H v := fun Q q => by
  refine h _ ?_
  cases b with
  | true => exact h1 rfl Q q
  | false => exact h2 rfl Q q
theorem same_upd {H : Hp} {p : Addr} {o : HO} (h : H p = none) : Same H (upd H p o) := fun b u e => by rw [upd_ne (ne_of_none e h)]; exact e
/-- what is new may change -/
theorem same_own {H H' : Hp} {p : Addr} {o : HO} (h : H p = none) (s : Same H H') : Same H (upd H' p o) := fun b u e => by rw [upd_ne (ne_of_none e h)]; exact s _ _ e
theorem call_cons {sp : Sp} {dvs : List V} {E : XK} {ta : TE} {tr : TA} {σ : L2.St} {H : Hp} {Q : VK} (h : ta σ H fun x H1 => tr σ H1 fun xs H2 => sp (x :: xs ++ dvs) H2 Q E) : tCall sp dvs E (tCons ta tr) σ H Q := h
theorem cons_go {ta : TE} {tr : TA} {σ : L2.St} {H : Hp} {Q : List V → Hp → Prop} (h : ta σ H fun x H1 => tr σ H1 fun xs H2 => Q (x :: xs) H2) : tCons ta tr σ H Q := h
theorem op_go {r : R2} {ta tb : TE} {σ : L2.St} {H : Hp} {Q : VK} (h : ta σ H fun x H1 => tb σ H1 fun y H2 => r x y H2 Q) : tOp r ta tb σ H Q := h
theorem asg_go {te : TE} {g : TG} {D : Ends} {σ : L2.St} {H : Hp} (h : te σ H fun x H1 => g x σ H1 D.nx) : tAsg te g D σ H := h
/-! ### lists -/
theorem val_len {K : PySem.W.Frag} {ta : TE} {σ : L2.St} {H : Hp} {p : Addr} {xs : List V} (ha : Val ta σ H (.ref p)) (h : SqL K H p xs ∨ SqT K H p xs) :
    Val (tCB (fun vs G Q => ∃ p ys, vs = [.ref p] ∧ (SqL K G p ys ∨ SqT K G p ys) ∧ Q (.int ys.length) G) (tCons ta tNil)) σ H (.int (xs.length : Int)) := fun Q q => ha _ ⟨p, xs, rfl, h, q⟩
theorem val_ixL {K : PySem.W.Frag} {ta tb : TE} {σ : L2.St} {H : Hp} {p : Addr} {xs : List V} {i : Int} {v : V} (ha : Val ta σ H (.ref p)) (hb : Val tb σ H (.int i)) (h : SqL K H p xs) (e : atI xs i = some v) :
    Val (tOp (rIxL K) ta tb) σ H v := fun Q q => ha _ (hb _ ⟨p, xs, i, v, rfl, rfl, h, e, q⟩)
theorem val_ixT {K : PySem.W.Frag} {ta tb : TE} {σ : L2.St} {H : Hp} {p : Addr} {xs : List V} {i : Int} {v : V} (ha : Val ta σ H (.ref p)) (hb : Val tb σ H (.int i)) (h : SqT K H p xs) (e : atI xs i = some v) :
    Val (tOp (rIxT K) ta tb) σ H v := fun Q q => ha _ (hb _ ⟨p, xs, i, v, rfl, rfl, h, e, q⟩)
/-! ### dicts -/
theorem val_dget {td ty : TE} {σ : L2.St} {H : Hp} {p : Addr} {kvs : List (Key × V)} {k : Key} {v : V} (ho : Val td σ H (.ref p)) (hk : Val ty σ H (kV k)) (hp : H p = some (.dK kvs))
    (e : valV kvs k = some v) : Val (tDGet td ty) σ H v := fun Q q => ho _ (hk _ ⟨p, v, rfl, by rw [← e]; exact DGet.k hp, q⟩)
theorem go_dput {td ty tv : TE} {σ : L2.St} {H : Hp} {p : Addr} {kvs : List (Key × V)} {k : Key} {v : V} {D : Ends} {u : TS} (hv : Val tv σ H v) (ho : Val td σ H (.ref p)) (hk : Val ty σ H (kV k))
    (hp : H p = some (.dK kvs)) (hl : kvs.length ≤ 1000) (q : u D σ (upd H p (.dK (putK kvs k v)))) : tSeq (sDPut td ty tv) u D σ H :=
  hv _ (ho _ (hk _ ⟨p, _, rfl, DPut.k hp (small1000 hl), q⟩))
theorem val_dgetS {td ty : TE} {σ : L2.St} {H : Hp} {p : Addr} {kvs : List (Key × V)} {x : Str} {v : V} (ho : Val td σ H (.ref p)) (hk : Val ty σ H (.str x)) (hp : H p = some (.dK kvs))
    (e : valV kvs (.inr x) = some v) : Val (tDGet td ty) σ H v := val_dget (k := .inr x) ho hk hp e
theorem go_dputS {td ty tv : TE} {σ : L2.St} {H : Hp} {p : Addr} {kvs : List (Key × V)} {x : Str} {v : V} {D : Ends} {u : TS} (hv : Val tv σ H v) (ho : Val td σ H (.ref p)) (hk : Val ty σ H (.str x))
    (hp : H p = some (.dK kvs)) (hl : kvs.length ≤ 1000) (q : u D σ (upd H p (.dK (putK kvs (.inr x) v)))) : tSeq (sDPut td ty tv) u D σ H := go_dput (k := .inr x) hv ho hk hp hl q
theorem ans_int {ta tb : TE} {σ : L2.St} {H : Hp} {p : Int → Int → Bool} {i j : Int} (ha : Val ta σ H (.int i)) (hb : Val tb σ H (.int j)) :
    Ans (tTest (tOp (rI0 fun i j => V.bl (p i j)) ta tb)) σ H (p i j) := fun Q q => ha _ (hb _ ⟨i, j, rfl, rfl, _, rfl, q⟩)
/-- all but p stays -/
def KeepBut (p : Addr) (H H' : Hp) : Prop := ∀ b o, b ≠ p → H b = some o → H' b = some o
theorem KeepBut.upd {p : Addr} {H : Hp} {o : HO} : KeepBut p H (upd H p o) := fun b u n e => by rw [upd_ne n]; exact e
theorem KeepBut.refl {p : Addr} {H : Hp} : KeepBut p H H := fun _ _ _ e => e
theorem KeepBut.trans {p : Addr} {H H1 H2 : Hp} (a : KeepBut p H H1) (b : KeepBut p H1 H2) : KeepBut p H H2 := fun c o n e => b c o n (a c o n e)
theorem KeepBut.new {p q : Addr} {H H1 : Hp} {o : HO} (a : KeepBut p H H1) (n : H1 q = none) : KeepBut p H (L2.upd H1 q o) := fun b u nb e => by
  rw [upd_ne (ne_of_none (a b u nb e) n)]
  exact a b u nb e
theorem KeepBut.same {p : Addr} {H H1 H2 : Hp} (a : KeepBut p H H1) (b : Same H1 H2) : KeepBut p H H2 := fun c o n e => b c o (a c o n e)
/-! ### != of a dict and its copy, the values objects -/
theorem hits_refs {A : Around} {s : Shared} {kvs : List (Key × V)} {vb : List (Key × Value)} (rb : KV kvs vb) {ks : List (Key × V)} {va : List (Key × Value)} (ra : KV ks va) :
    (∀ p ∈ ks, valV kvs p.1 = some p.2 ∧ ∃ a, p.2 = .ref a) → PySem.W.KeqHits A s vb va true := by
  unfold KV at ra
  induction ra with
  | nil => exact fun _ => .nil
  | @cons p q ps qs h t ih =>
    intro hp
    obtain ⟨h1, h2⟩ := h
    obtain ⟨e, a, ea⟩ := hp p List.mem_cons_self
    have rr : RelO (some p.2) (valueAt vb p.1) := by rw [← e]; exact rb.val p.1
    obtain ⟨y, hy, ry⟩ := rr.some_of
    obtain ⟨k, v⟩ := q
    rw [show p.1 = k from h1] at hy
    rw [ea] at ry h2
    have ev : v = .ref a := h2
    have ey : y = .ref a := ry
    subst ev ey
    exact PySem.W.KeqHits.hit (e := true) (b := true) hy (SeqAt.EqAt.same _) (ih fun p' hm => hp p' (List.mem_cons_of_mem _ hm))
def rNeCopy : R2 := fun x y H Q => ∃ (a b : Addr) (ks : List (Key × V)), x = .ref a ∧ y = .ref b ∧ H a = some (.dK ks) ∧ H b = some (.dK ks) ∧ (ks.map (·.1)).Nodup ∧ (∀ p ∈ ks, ∃ c, p.2 = .ref c) ∧ Q (.bl false) H
theorem op_neCopy {X : Cx} (hu : X.A.units < cLine) : OpR X (compareOp .NotEq) rNeCopy := by
  intro pins s σ H x y v u Q I rx ry ⟨a, b, ks, ex, ey, ea, eb, nd, hr, q⟩
  subst ex ey
  obtain rfl : v = Value.ref a := rx
  obtain rfl : u = Value.ref b := ry
  obtain ⟨_, ya, va, ra, da⟩ := (show ObjOk X.prog X.w H s.heap a (.dK ks) from I.hok a _ ea)
  obtain ⟨_, yb, vb, rb, db⟩ := (show ObjOk X.prog X.w H s.heap b (.dK ks) from I.hok b _ eb)
  have hl : va.length = vb.length := by rw [← ra.length, ← rb.length]
  exact PySem.W.keq_ne (knd := mixKind X.prog X.w) (r := true) ya yb da db hu (fun _ => hits_refs rb ra fun p hp => ⟨val_nodup nd p hp, hr p hp⟩) (fin_bl I q (by simp [hl]))
/-! ### != of two lists of the same flat values -/
def rNeFlat (K : PySem.W.Frag) : R2 := fun x y H Q => ∃ (a b : Addr) (xs : List V), x = .ref a ∧ y = .ref b ∧ SqL K H a xs ∧ SqL K H b xs ∧ (∀ v ∈ xs, flatB v = true) ∧ Q (.bl false) H
theorem op_neFlat {X : Cx} (hu : X.A.units < cLine) : OpR X (compareOp .NotEq) (rNeFlat X.K) := by
  intro pins s σ H x y v u Q I rx ry ⟨a, b, xs, ex, ey, ha, hb, hf, q⟩
  subst ex ey
  obtain rfl : v = Value.ref a := rx
  obtain rfl : u = Value.ref b := ry
  obtain ⟨us, r1, p1, _⟩ := I.list ha
  obtain ⟨ws, r2, p2, _⟩ := I.list hb
  have hsz : us.toArray.size = ws.toArray.size := by rw [List.size_toArray, List.size_toArray, ← r1.length, ← r2.length]
  refine SeqAt.RcNeAt.lists (e := fun _ => true) p1.isList p2.isList hsz hu (fun j h1 h2 => ?_) X.prog X.w X.xe _ ?_
  · have h1' : j < us.length := by simpa using h1
    have h2' : j < ws.length := by simpa using h2
    have hj : j < xs.length := by rw [r1.length]; exact h1'
    obtain ⟨u1, e1, q1⟩ := Vals.get r1 (List.getElem?_eq_getElem hj)
    obtain ⟨u2, e2, q2⟩ := Vals.get r2 (List.getElem?_eq_getElem hj)
    rw [List.getElem?_eq_getElem h1'] at e1
    rw [List.getElem?_eq_getElem h2'] at e2
    have z := eqAt_same (A := X.A.in1) (s := s) q1 q2 (hf _ (List.getElem_mem hj))
    rw [← Option.some.inj e1, ← Option.some.inj e2] at z
    simpa using z
  · rw [show ((List.range us.toArray.size).all fun _ => true) = true from List.all_eq_true.mpr fun _ _ => rfl]
    exact ⟨.bl false, H, I, rfl, q⟩
end Sg
set_option Elab.async false
set_option linter.all false
set_option maxRecDepth 100000
set_option maxHeartbeats 2000000
namespace K30
open PySem PySem.Spec PyProof.Rows L2 Sg
local macro_rules | `(tactic| walk_at "val") => `(tactic| first
  | exact val_c
  | exact val_var rfl
  | (refine val_op0 ?_ ?_ <;> walk_at "val")
  | (refine val_opC ?_ ?_ ?_ <;> walk_at "val")
  | (refine val_un ?_ <;> walk_at "val")
  | (refine val_dgetS ?_ ?_ ?_ ?_ <;> first | walk_at "val" | assumption | rfl)
  | (with_reducible show CMul _ _; first | exact mulL (by omega) | exact Or.inr (by omega))
  | omega
  | (show (0 : Int) < _; omega))
def topS (i : Nat) : Stmt := PySem.Challenge.pw_strikehall_k30_sayings_put.main.body.getD i (.Pass ⟨0, 0, 0, 0⟩)
abbrev sMixed : Stmt := topS 6
abbrev sHand : Stmt := topS 7
abbrev sFrom : Stmt := topS 8
abbrev sSays : Stmt := topS 10
abbrev sPut : Stmt := topS 12
abbrev sNumber : Stmt := topS 13
abbrev sTerms : Stmt := topS 14
abbrev sLaw : Stmt := topS 15
theorem scMixed : FnScope ["cell", "k", "number"] ["cell", "k"] (defScope sMixed) := ⟨rfl, rfl, rfl, by decide +kernel, rfl, by decide +kernel, by decide +kernel⟩
theorem scHand : FnScope ["script", "k", "cell"] ["script", "k"] (defScope sHand) := ⟨rfl, rfl, rfl, by decide +kernel, rfl, by decide +kernel, by decide +kernel⟩
theorem scFrom : FnScope ["hand", "many", "digit"] ["hand", "many"] (defScope sFrom) := ⟨rfl, rfl, rfl, by decide +kernel, rfl, by decide +kernel, by decide +kernel⟩
theorem scSays : FnScope ["one", "other", "number", "left"] ["one", "other", "number"] (defScope sSays) := ⟨rfl, rfl, rfl, by decide +kernel, rfl, by decide +kernel, by decide +kernel⟩
theorem scPut : FnScope ["sayings", "places", "rows", "one", "other", "number"] ["sayings", "places"] (defScope sPut) := ⟨rfl, rfl, rfl, by decide +kernel, rfl, by decide +kernel, by decide +kernel⟩
theorem scNumber : FnScope ["hand"] ["hand"] (defScope sNumber) := ⟨rfl, rfl, rfl, by decide +kernel, rfl, by decide +kernel, by decide +kernel⟩
theorem scTerms : FnScope ["hand", "letters", "at", "word"] ["hand"] (defScope sTerms) := ⟨rfl, rfl, rfl, by decide +kernel, rfl, by decide +kernel, by decide +kernel⟩
section
variable {P : Program} {w : World} {K : PySem.W.Frag} {mg : Str → Option Value} {base : Heap}
/-! ### _law_mixed -/
def spMixed : Sp := fun vs H Q _ => ∃ (c k : Int), vs = [.int c, .int k] ∧ 0 ≤ k ∧ k ≤ 4294967296 ∧ ∀ r : Int, 0 ≤ r → r < 2147483648 → Q (.int r) H
theorem ok_mixed {f : Addr} {fd : FuncData} (F : Fun K "_law_mixed" "_law_mixed" sMixed f fd) : FnOk P w K mg base CX0 1 f fd ["cell", "k"] spMixed := by
  refine F.ok scMixed (fun vs H Q E h => ?_) (fun cdv A outer s H vs Q E hr h => ?_)
  · obtain ⟨c, k, rfl, _⟩ := h
    rfl
  · obtain ⟨c, k, rfl, h0, h1, q⟩ := h
    refine ⟨_, pss_cons (ps_set (i := 2) scMixed.nd rfl (.inl rfl) (pe_op op_mod (pe_op op_add (pe_op op_add (pe_op op_mul (pe_op op_mod (pv 0) pe_int)
        (pe_op op_add pe_int (pe_op op_mul (pe_op op_mul pe_int (pv 1)) (pv 1)))) (pe_op op_mul pe_int (pv 1))) pe_int) pe_int))
      (pss_one (ps_ret (pe_op op_mod (pe_op op_mul (pv 2) (pe_op op_add (pe_op op_add (pv 2) (pe_op op_mul pe_int (pv 1))) pe_int)) pe_int))), ?_⟩
    have hm : 0 ≤ c % 2147483647 ∧ c % 2147483647 < 2147483647 := ⟨Int.emod_nonneg _ (by decide), Int.emod_lt_of_pos _ (by decide)⟩
    refine go_set (v := .int ((c % 2147483647 * (48271 + 2 * k * k) + 69621 * k + 11) % 2147483647)) ?_ ?_
    · walk_at "val"
    generalize hn : (c % 2147483647 * (48271 + 2 * k * k) + 69621 * k + 11) % 2147483647 = n
    have hn2 : 0 ≤ n ∧ n < 2147483647 := by
      rw [← hn]
      exact ⟨Int.emod_nonneg _ (by decide), Int.emod_lt_of_pos _ (by decide)⟩
    refine go_ret (v := .int (n * (n + 2 * k + 1) % 2147483629)) ?_ ?_
    · walk_at "val"
    exact q _ (Int.emod_nonneg _ (by decide)) (Int.lt_trans (Int.emod_lt_of_pos _ (by decide)) (by decide))
/-! ### _law_from -/
def handD (r s n : Int) : List (Key × V) := [(.inr "rest", .int r), (.inr "seed", .int s), (.inr "at", .int n)]
theorem hand_rest (r s n : Int) : valV (handD r s n) (.inr "rest") = some (.int r) := by rfl
theorem hand_seed (r s n : Int) : valV (handD r s n) (.inr "seed") = some (.int s) := by rfl
theorem hand_at (r s n : Int) : valV (handD r s n) (.inr "at") = some (.int n) := by rfl
theorem put_rest (r s n v : Int) : putK (handD r s n) (.inr "rest") (.int v) = handD v s n := by rfl
theorem put_at (r s n v : Int) : putK (handD r s n) (.inr "at") (.int v) = handD r s v := by rfl
/-- what is drawn by stands at p, at most m draws behind -/
def HandAt (H : Hp) (p : Addr) (m : Int) : Prop := ∃ r s n : Int, H p = some (.dK (handD r s n)) ∧ 0 ≤ n ∧ n ≤ m
theorem HandAt.same {H H' : Hp} {p : Addr} {m : Int} (h : HandAt H p m) (s : Same H H') : HandAt H' p m := by
  obtain ⟨r, sd, n, e, h1⟩ := h
  exact ⟨r, sd, n, s _ _ e, h1⟩
theorem HandAt.mono {H : Hp} {p : Addr} {m m' : Int} (h : HandAt H p m) (l : m ≤ m') : HandAt H p m' := by
  obtain ⟨r, sd, n, e, h1, h2⟩ := h
  exact ⟨r, sd, n, e, h1, by omega⟩
def spFrom : Sp := fun vs H Q _ => ∃ (p : Addr) (many m : Int), vs = [.ref p, .int many] ∧ HandAt H p m ∧ m ≤ 1000000 ∧ 0 < many ∧ many ≤ 1000 ∧
  ∀ (v : Int) (H' : Hp), 0 ≤ v → v < many → HandAt H' p (m + 1) → KeepBut p H H' → Q (.int v) H'
theorem ok_from {f fM : Addr} {fd fdM : FuncData} (F : Fun K "_law_from" "_law_from" sFrom f fd) (FM : Fun K "_law_mixed" "_law_mixed" sMixed fM fdM) (bM : Binds K fdM ["cell", "k"] [])
    (gM : mg "_law_mixed" = some (.ref fM)) : FnOk P w K mg base CX0 2 f fd ["hand", "many"] spFrom := by
  have GM : FnOk P w K mg base CX0 1 fM fdM ["cell", "k"] spMixed := ok_mixed FM
  refine F.ok scFrom (fun vs H Q E h => ?_) (fun cdv A outer s H vs Q E hr h => ?_)
  · obtain ⟨p, many, m, rfl, _⟩ := h
    rfl
  · obtain ⟨p, many, m, rfl, ⟨r, sd, n, hp, n0, n1⟩, hm, m0, m1, q⟩ := h
    have hu := hu_of hr
    refine ⟨_, pss_cons (ps_if (pt_cmpR op_gt (pe_dget hu (pv 0) pe_str (fun _ _ => rfl)) pe_int (nomark _))
        (pss_cons (ps_set (i := 2) scFrom.nd rfl (.inl rfl) (pe_op op_modN (pe_dget hu (pv 0) pe_str (fun _ _ => rfl)) (pv 1)))
        (pss_cons (ps_dput hu (pv 0) pe_str (pe_op op_fdivN (pe_dget hu (pv 0) pe_str (fun _ _ => rfl)) (pv 1)) rfl)
        (pss_one (ps_ret (pv 2))))) pss_nil)
      (pss_cons (ps_dput hu (pv 0) pe_str (pe_op op_add (pe_dget hu (pv 0) pe_str (fun _ _ => rfl)) pe_int) rfl)
      (pss_one (ps_ret (pe_op op_modN (pe_op op_fdivN (pe_call GM hr rfl gM FM.kp bM .nil pass0 (pa_cons (pe_call GM hr rfl gM FM.kp bM .nil pass0
        (pa_cons (pe_dget hu (pv 0) pe_str (fun _ _ => rfl)) (pa_cons (pe_dget hu (pv 0) pe_str (fun _ _ => rfl)) pa_nil))) (pa_cons pe_int pa_nil))) pe_int) (pv 1))))), ?_⟩
    refine go_when (b := decide (0 < r)) (ans_int (val_dgetS (val_var rfl) val_c hp (hand_rest r sd n)) val_c) (fun hb => ?_) (fun hb => ?_)
    · have hb := of_decide_eq_true hb
      refine go_set (v := .int (r.fmod many)) (val_opC (val_dgetS (val_var rfl) val_c hp (hand_rest r sd n)) (val_var rfl) (by omega)) ?_
      refine go_dputS (v := .int (r.fdiv many)) (val_opC (val_dgetS (val_var rfl) val_c hp (hand_rest r sd n)) (val_var rfl) (by constructor <;> omega)) (val_var rfl) val_c hp (by show 3 ≤ 1000; decide) ?_
      refine go_ret (v := .int (r.fmod many)) (val_var rfl) ?_
      refine q _ _ (Int.fmod_nonneg_of_pos _ (by omega)) (Int.fmod_lt_of_pos _ (by omega)) ?_ KeepBut.upd
      exact ⟨r.fdiv many, sd, n, by rw [upd_same, put_rest], n0, by omega⟩
    · refine go_dputS (v := .int (n + 1)) (val_op0 (val_dgetS (val_var rfl) val_c hp (hand_at r sd n)) val_c) (val_var rfl) val_c hp (by show 3 ≤ 1000; decide) ?_
      have hp1 : (upd H p (.dK (putK (handD r sd n) (.inr "at") (.int (n + 1))))) p = some (.dK (handD r sd (n + 1))) := by rw [upd_same, put_at]
      refine (val_dgetS (val_var rfl) val_c hp1 (hand_seed r sd (n + 1))) _ ?_
      refine (val_dgetS (val_var rfl) val_c hp1 (hand_at r sd (n + 1))) _ ?_
      refine ⟨_, _, rfl, by omega, by omega, fun c c0 c1 => ?_⟩
      refine ⟨_, _, rfl, by decide, by decide, fun c c0 c1 => ?_⟩
      refine ⟨_, _, rfl, rfl, by constructor <;> decide, ?_⟩
      refine ⟨_, rfl, _, _, rfl, rfl, by omega, ?_⟩
      refine q _ _ (Int.fmod_nonneg_of_pos _ (by omega)) (Int.fmod_lt_of_pos _ (by omega)) ?_ KeepBut.upd
      exact ⟨r, sd, n + 1, hp1, by omega, by omega⟩
/-! ### _law_hand -/
def spHand (K : PySem.W.Frag) : Sp := fun vs H Q _ => ∃ (a : Addr) (ns : List Int) (k : Int), vs = [.ref a, .int k] ∧ SqL K H a (ns.map V.int) ∧ 0 ≤ k ∧ k ≤ 1000 ∧
  ∀ (p : Addr) (H' : Hp), H p = none → Same H H' → HandAt H' p 0 → Q (.ref p) H'
theorem ok_hand {f fM : Addr} {fd fdM : FuncData} (F : Fun K "_law_hand" "_law_hand" sHand f fd) (FM : Fun K "_law_mixed" "_law_mixed" sMixed fM fdM) (bM : Binds K fdM ["cell", "k"] [])
    (gM : mg "_law_mixed" = some (.ref fM)) (ml : mg "len" = none) : FnOk P w K mg base CX0 2 f fd ["script", "k"] (spHand K) := by
  have GM : FnOk P w K mg base CX0 1 fM fdM ["cell", "k"] spMixed := ok_mixed FM
  refine F.ok scHand (fun vs H Q E h => ?_) (fun cdv A outer s H vs Q E hr h => ?_)
  · obtain ⟨a, ns, k, rfl, _⟩ := h
    rfl
  · obtain ⟨a, ns, k, rfl, hS, k0, k1, q⟩ := h
    have hu := hu_of hr
    refine ⟨_, pss_cons (ps_set (i := 2) scHand.nd rfl (.inl rfl) (pe_ifExp (pt_cmpR op_lt (pv 1) (pe_callB call_len_seq (by rfl) ml PySem.boot_len (pa_cons (pv 0) pa_nil)) (nomark _))
        (pe_ix ix_list (pv 0) (pv 1) (fun _ _ => rfl)) (pv 1)))
      (pss_one (ps_ret (pe_disp (pps_cons pe_str (pe_ifExp (pt_cmpR op_ge (pv 2) (pe_op op_pow pe_int pe_int) (nomark _)) (pv 2) pe_int)
        (pps_cons pe_str (pe_call GM hr rfl gM FM.kp bM .nil pass0 (pa_cons (pe_call GM hr rfl gM FM.kp bM .nil pass0 (pa_cons (pv 2) (pa_cons (pv 1) pa_nil))) (pa_cons pe_int pa_nil)))
        (pps_cons pe_str pe_int pps_nil))) (by rfl) (by rfl) (fun z => by cases z) (by decide)))), ?_⟩
    have hA := ans_int (p := fun i j => decide (i < j)) (ta := tVar 1) (tb := tCB (fun vs G Q => ∃ p ys, vs = [.ref p] ∧ (SqL K G p ys ∨ SqT K G p ys) ∧ Q (.int ys.length) G) (tCons (tVar 0) tNil))
      (σ := [some (.ref a), some (.int k), none]) (H := H) (val_var rfl) (val_len (val_var rfl) (.inl hS))
    rw [List.length_map] at hA
    refine go_set (v := .int (if k < ns.length then (ns[k.toNat]?).getD 0 else k)) (val_ifE hA (fun hb => ?_) (fun hb => ?_)) ?_
    · have hb := of_decide_eq_true hb
      rw [if_pos hb]
      refine val_ixL (val_var rfl) (val_var rfl) hS ?_
      have hk : k.toNat < ns.length := by omega
      have e := atI_nat (xs := ns.map V.int) (j := k.toNat) (v := .int ((ns[k.toNat]?).getD 0)) (by rw [List.getElem?_map, List.getElem?_eq_getElem hk]; rfl)
      rw [show ((k.toNat : Nat) : Int) = k by omega] at e
      exact e
    · have hb := of_decide_eq_false hb
      rw [if_neg hb]
      exact val_var rfl
    · generalize (if k < (ns.length : Int) then (ns[k.toNat]?).getD 0 else k) = c
      intro p hp
      have s1 : Same H (upd H p (.dK [])) := same_upd hp
      obtain ⟨r, hR⟩ : ∃ r : Int, Val (tIf (tTest (tOp (rI0 fun i j => V.bl (decide (j ≤ i))) (tVar 2) (tOp (rI CPow fun i j => V.int (i ^ j.toNat)) (tC (V.int 10)) (tC (V.int 18))))) (tVar 2) (tC (V.int 0)))
          [some (.ref a), some (.int k), some (.int c)] (upd H p (.dK [])) (.int r) := by
        refine ⟨if (10 : Int) ^ (18 : Int).toNat ≤ c then c else 0, val_ifE (ans_int (p := fun i j => decide (j ≤ i)) (val_var rfl) (val_opC val_c val_c ⟨by decide, by decide, by decide⟩)) (fun hb => ?_) (fun hb => ?_)⟩
        · rw [if_pos (of_decide_eq_true hb)]; exact val_var rfl
        · rw [if_neg (of_decide_eq_false hb)]; exact val_c
      refine hR _ ?_
      refine ⟨_, rfl, _, rfl, c, k, rfl, k0, by omega, fun r1 _ _ => ?_⟩
      refine ⟨_, _, rfl, by decide, by decide, fun r2 _ _ => ?_⟩
      refine ⟨upd_same, [(.inr "rest", .int r), (.inr "seed", .int r2), (.inr "at", .int 0)], rfl, by show 3 ≤ 15; decide, ?_⟩
      exact q p _ hp (same_own hp s1) ⟨r, r2, 0, by rw [upd_same]; rfl, by decide, by decide⟩
/-! ### _law_number -/
def spNumber : Sp := fun vs H Q _ => ∃ (p : Addr) (m : Int), vs = [.ref p] ∧ HandAt H p m ∧ m ≤ 100000 ∧
  ∀ (v : Int) (H' : Hp), -(10 ^ 30) ≤ v → v ≤ 10 ^ 30 → HandAt H' p (m + 2) → KeepBut p H H' → Q (.int v) H'
theorem ok_number {f fF : Addr} {fd fdF : FuncData} (F : Fun K "_law_number" "_law_number" sNumber f fd) (FF : Fun K "_law_from" "_law_from" sFrom fF fdF) (bF : Binds K fdF ["hand", "many"] [])
    (gF : mg "_law_from" = some (.ref fF)) (GF : FnOk P w K mg base CX0 2 fF fdF ["hand", "many"] spFrom) : FnOk P w K mg base CX0 3 f fd ["hand"] spNumber := by
  refine F.ok scNumber (fun vs H Q E h => ?_) (fun cdv A outer s H vs Q E hr h => ?_)
  · obtain ⟨p, m, rfl, _⟩ := h
    rfl
  · obtain ⟨p, m, rfl, hp, hm, q⟩ := h
    refine ⟨_, pss_one (ps_ret (pe_ifExp (pt_cmpR op_eq (pe_call GF hr rfl gF FF.kp bF .nil pass0 (pa_cons (pv 0) (pa_cons pe_int pa_nil))) pe_int (nomark _))
      (pe_ix ix_list (pe_lst (pa_cons (pe_op op_pow pe_int pe_int) (pa_cons (pe_un un_neg (pe_op op_pow pe_int pe_int)) pa_nil))) (pe_call GF hr rfl gF FF.kp bF .nil pass0 (pa_cons (pv 0) (pa_cons pe_int pa_nil))) (fun _ _ => rfl))
      (pe_op op_sub (pe_call GF hr rfl gF FF.kp bF .nil pass0 (pa_cons (pv 0) (pa_cons pe_int pa_nil))) pe_int))), ?_⟩
    refine ⟨.ref p, rfl, p, _, m, rfl, hp, by omega, by decide, by decide, fun v H1 v0 v1 h1 k1 => ⟨rfl, _, rfl, ite2 (fun _ => ?_) (fun _ => ?_)⟩⟩
    · refine ⟨10, 30, rfl, rfl, ⟨by decide, by decide, by decide⟩, 10, 30, rfl, rfl, ⟨by decide, by decide, by decide⟩, _, rfl, by show 2 ≤ sizeLine; decide, fun l nl => ?_⟩
      have k2 : KeepBut p H (upd H1 l (.lst [.int (10 ^ (30 : Int).toNat), .int (-(10 ^ (30 : Int).toNat))])) := k1.new nl
      have h2 : HandAt (upd H1 l (.lst [.int (10 ^ (30 : Int).toNat), .int (-(10 ^ (30 : Int).toNat))])) p (m + 1) := h1.same (same_upd nl)
      refine ⟨.ref p, rfl, p, _, m + 1, rfl, h2, by omega, by decide, by decide, fun u H3 u0 u1 h3 k3 => ?_⟩
      have nlp : l ≠ p := by
        obtain ⟨_, _, _, e, _⟩ := h1
        exact (ne_of_none e nl).symm
      have hl := k3 l _ nlp upd_same
      have done : ∀ x : Int, -(10 ^ 30) ≤ x → x ≤ 10 ^ 30 → Q (.int x) H3 := fun x x0 x1 => q x H3 x0 x1 (h3.mono (by omega)) (k2.trans k3)
      rcases (show u = 0 ∨ u = 1 by omega) with e | e
      · subst e
        exact ⟨l, _, 0, .int (10 ^ (30 : Int).toNat), rfl, rfl, SqL.of hl, rfl, done _ (by decide) (by decide)⟩
      · subst e
        exact ⟨l, _, 1, .int (-(10 ^ (30 : Int).toNat)), rfl, rfl, SqL.of hl, rfl, done _ (by decide) (by decide)⟩
    · refine ⟨.ref p, rfl, p, _, m + 1, rfl, h1, by omega, by decide, by decide, fun u H3 u0 u1 h3 k3 => ?_⟩
      exact ⟨_, _, rfl, rfl, q _ H3 (by omega) (by omega) (h3.mono (by omega)) (k1.trans k3)⟩
/-! ### rows of sayings -/
abbrev Say := Str × Str × Int
def triV (r : Say) : HO := .tup [.str r.1, .str r.2.1, .int r.2.2]
def TriAt (H : Hp) (ts : List Addr) (rs : List Say) : Prop := Paired (fun t r => H t = some (triV r)) ts rs
def RowsAt (H : Hp) (l : Addr) (rs : List Say) : Prop := ∃ ts : List Addr, H l = some (.lst (ts.map V.ref)) ∧ TriAt H ts rs
theorem TriAt.same {H H' : Hp} {ts : List Addr} {rs : List Say} (h : TriAt H ts rs) (s : Same H H') : TriAt H' ts rs := Paired.mapP h fun _ _ e => s _ _ e
theorem RowsAt.same {H H' : Hp} {l : Addr} {rs : List Say} (h : RowsAt H l rs) (s : Same H H') : RowsAt H' l rs := by
  obtain ⟨ts, e, t⟩ := h
  exact ⟨ts, s _ _ e, t.same s⟩
theorem Paired.app {α β : Type} {F : α → β → Prop} : ∀ {a b : List α} {c d : List β}, Paired F a c → Paired F b d → Paired F (a ++ b) (c ++ d)
  | _, _, _, _, .nil, h => h
  | _, _, _, _, .cons h t, q => .cons h (Paired.app t q)
theorem Paired.at {α β : Type} {F : α → β → Prop} : ∀ {a : List α} {c : List β} {i : Nat} {x : α}, Paired F a c → a[i]? = some x → ∃ y, c[i]? = some y ∧ F x y
  | _, _, _, _, .nil, e => by simp at e
  | _, _, 0, _, .cons h _, e => by simp at e; subst e; exact ⟨_, rfl, h⟩
  | _, _, i + 1, _, .cons _ t, e => by
    obtain ⟨y, h1, h2⟩ := Paired.at (i := i) t (by simpa using e)
    exact ⟨y, by simpa using h1, h2⟩
/-- what one saying becomes -/
def says (one other : Str × Int) (n : Int) : List Say :=
  if one.1 = other.1 then (if n + other.2 - one.2 < 0 then [("", "", n + other.2 - one.2)] else []) else [(one.1, other.1, n + other.2 - one.2)]
theorem says_len (one other : Str × Int) (n : Int) : (says one other n).length ≤ 1 := by
  unfold says
  split
  · split
    · exact Nat.le_refl _
    · exact Nat.zero_le _
  · exact Nat.le_refl _
theorem op_eqS_ans {ta tb : TE} {σ : L2.St} {H : Hp} {a b : Str} (ha : Val ta σ H (.str a)) (hb : Val tb σ H (.str b)) : Ans (tTest (tOp rEq ta tb)) σ H (decide (a = b)) :=
  ans_eq ha hb rfl (by
    by_cases h : a = b
    · subst h; simp
    · rw [decide_eq_false h, decide_eq_false (fun z => h (V.str.inj z))])
def spSays : Sp := fun vs H Q _ => ∃ (p q : Addr) (a b : Str) (x y n : Int), vs = [.ref p, .ref q, .int n] ∧ H p = some (.tup [.str a, .int x]) ∧ H q = some (.tup [.str b, .int y]) ∧
  ∀ (l : Addr) (H' : Hp), H l = none → Same H H' → RowsAt H' l (says (a, x) (b, y) n) → Q (.ref l) H'
theorem ok_says {f : Addr} {fd : FuncData} (F : Fun K "_law_says" "_law_says" sSays f fd) : FnOk P w K mg base CX0 1 f fd ["one", "other", "number"] spSays := by
  refine F.ok scSays (fun vs H Q E h => ?_) (fun cdv A outer s H vs Q E hr h => ?_)
  · obtain ⟨p, q, a, b, x, y, n, rfl, _⟩ := h
    rfl
  · obtain ⟨p, q, a, b, x, y, n, rfl, hp, hq, k⟩ := h
    refine ⟨_, pss_cons (ps_set (i := 3) scSays.nd rfl (.inl rfl) (pe_op op_sub (pe_op op_add (pv 2) (pe_ix ix_tup (pv 1) pe_int (fun _ _ => rfl))) (pe_ix ix_tup (pv 0) pe_int (fun _ _ => rfl))))
      (pss_cons (ps_if (pt_cmpR op_eq (pe_ix ix_tup (pv 0) pe_int (fun _ _ => rfl)) (pe_ix ix_tup (pv 1) pe_int (fun _ _ => rfl)) (nomark _))
        (pss_one (ps_ret (pe_ifExp (pt_cmpR op_lt (pv 3) pe_int (nomark _)) (pe_lst (pa_cons (pe_tup (pa_cons pe_str (pa_cons pe_str (pa_cons (pv 3) pa_nil)))) pa_nil)) (pe_lst pa_nil)))) pss_nil)
      (pss_one (ps_ret (pe_lst (pa_cons (pe_tup (pa_cons (pe_ix ix_tup (pv 0) pe_int (fun _ _ => rfl)) (pa_cons (pe_ix ix_tup (pv 1) pe_int (fun _ _ => rfl)) (pa_cons (pv 3) pa_nil)))) pa_nil))))), ?_⟩
    refine go_set (v := .int (n + y - x)) (val_op0 (val_op0 (val_var rfl) (val_ixT (val_var rfl) val_c (SqT.of hq) rfl)) (val_ixT (val_var rfl) val_c (SqT.of hp) rfl)) ?_
    have one : ∀ (u v : Str) (t : Addr) (H1 : Hp), H1 t = none → Same H H1 → ∀ l, (upd H1 t (.tup [.str u, .str v, .int (n + y - x)])) l = none →
        Same H (upd (upd H1 t (.tup [.str u, .str v, .int (n + y - x)])) l (.lst [.ref t])) ∧ RowsAt (upd (upd H1 t (.tup [.str u, .str v, .int (n + y - x)])) l (.lst [.ref t])) l [(u, v, n + y - x)] := by
      intro u v t H1 ht sm l hl
      have ne : t ≠ l := ne_of_none upd_same hl
      exact ⟨(sm.trans (same_upd ht)).trans (same_upd hl), [t], upd_same, .cons (by rw [upd_ne ne, upd_same]; rfl) .nil⟩
    refine go_when (op_eqS_ans (val_ixT (val_var rfl) val_c (SqT.of hp) rfl) (val_ixT (val_var rfl) val_c (SqT.of hq) rfl)) (fun hb => ?_) (fun hb => ?_)
    · have e : a = b := of_decide_eq_true hb
      refine (ans_int (p := fun i j => decide (i < j)) (val_var rfl) val_c) _ ?_
      by_cases h0 : n + y - x < 0
      · rw [if_pos (decide_eq_true h0)]
        refine ⟨_, rfl, by show 3 ≤ sizeLine; decide, fun t ht => ⟨by show 1 ≤ sizeLine; decide, fun l hl => ?_⟩⟩
        obtain ⟨s1, r1⟩ := one "" "" t H ht (fun _ _ z => z) l hl
        refine k l _ (Same.free (same_upd ht) hl) s1 ?_
        unfold says
        rw [if_pos e, if_pos h0]
        exact r1
      · rw [if_neg (by rw [decide_eq_false h0]; decide)]
        refine ⟨Nat.zero_le _, fun l hl => k l _ hl (same_upd hl) ⟨[], upd_same, ?_⟩⟩
        unfold says
        rw [if_pos e, if_neg h0]
        exact .nil
    · have e : ¬ a = b := of_decide_eq_false hb
      refine (val_ixT (val_var rfl) val_c (SqT.of hp) rfl) _ ?_
      refine (val_ixT (val_var rfl) val_c (SqT.of hq) rfl) _ ?_
      refine ⟨_, rfl, by show 3 ≤ sizeLine; decide, fun t ht => ⟨by show 1 ≤ sizeLine; decide, fun l hl => ?_⟩⟩
      obtain ⟨s1, r1⟩ := one a b t H ht (fun _ _ z => z) l hl
      refine k l _ (Same.free (same_upd ht) hl) s1 ?_
      unfold says
      rw [if_neg e]
      exact r1
/-! ### _law_put -/
/-- the dict of places: each value a pair -/
def PlAt (H : Hp) (kvs : List (Key × V)) (pl : List Say) : Prop := Paired (fun kv (e : Say) => kv.1 = .inr e.1 ∧ ∃ t, kv.2 = .ref t ∧ H t = some (.tup [.str e.2.1, .int e.2.2])) kvs pl
theorem PlAt.same {H H' : Hp} {kvs : List (Key × V)} {pl : List Say} (h : PlAt H kvs pl) (s : Same H H') : PlAt H' kvs pl :=
  Paired.mapP h fun _ _ ⟨e, t, e2, e3⟩ => ⟨e, t, e2, s _ _ e3⟩
def look (pl : List Say) (x : Str) : Option (Str × Int) := (pl.find? fun e => decide (e.1 = x)).map (·.2)
theorem PlAt.look {H : Hp} {kvs : List (Key × V)} {pl : List Say} (h : PlAt H kvs pl) (x : Str) :
    (valV kvs (.inr x) = none ∧ K30.look pl x = none) ∨ ∃ t e, valV kvs (.inr x) = some (.ref t) ∧ K30.look pl x = some e ∧ H t = some (.tup [.str e.1, .int e.2]) := by
  unfold PlAt at h
  induction h with
  | nil => exact .inl ⟨rfl, rfl⟩
  | @cons kv e r q h1 h2 ih =>
    obtain ⟨k, v⟩ := kv
    obtain ⟨e1, t, e2, e3⟩ := h1
    have e1' : k = .inr e.1 := e1
    have e2' : v = .ref t := e2
    subst e1' e2'
    by_cases c : e.1 = x
    · refine .inr ⟨t, e.2, ?_, ?_, e3⟩
      · rw [valV_pos (show (Sum.inr e.1 : Key) = .inr x by rw [c])]
      · unfold K30.look
        rw [List.find?_cons_of_pos (by exact decide_eq_true c)]
        rfl
    · have n1 : ¬ (Sum.inr e.1 : Key) = .inr x := fun z => c (Sum.inr.inj z)
      have n2 : K30.look (e :: q) x = K30.look q x := by
        unfold K30.look
        rw [List.find?_cons_of_neg (by simpa using c)]
      rcases ih with ⟨a1, a2⟩ | ⟨t', e', a1, a2, a3⟩
      · exact .inl ⟨by rw [valV_neg n1]; exact a1, by rw [n2]; exact a2⟩
      · exact .inr ⟨t', e', by rw [valV_neg n1]; exact a1, by rw [n2]; exact a2, a3⟩
def at1 (pl : List Say) (x : Str) : Str × Int := (look pl x).getD (x, 0)
def put1 (pl : List Say) (r : Say) : List Say := says (at1 pl r.1) (at1 pl r.2.1) r.2.2
def putS (pl : List Say) (rs : List Say) : List Say := rs.flatMap (put1 pl)
theorem putS_snoc (pl rs : List Say) (r : Say) : putS pl (rs ++ [r]) = putS pl rs ++ put1 pl r := by
  unfold putS
  rw [List.flatMap_append]
  simp
theorem putS_len (pl : List Say) : ∀ rs : List Say, (putS pl rs).length ≤ rs.length
  | [] => Nat.le_refl _
  | r :: q => by
    have h1 := putS_len pl q
    have h2 : (put1 pl r).length ≤ 1 := says_len _ _ _
    unfold putS at h1 ⊢
    rw [List.flatMap_cons, List.length_append, List.length_cons]
    omega
/-- d.get(x, (x, 0)) -/
theorem get_place {H : Hp} {d : Addr} {kvs : List (Key × V)} {pl : List Say} {td ty tz : TE} {σ : L2.St} {x : Str} {Q : VK} (hd : H d = some (.dK kvs)) (hp : PlAt H kvs pl)
    (h1 : Val td σ H (.ref d)) (h2 : Val ty σ H (.str x)) (h3 : Val tz σ H (.str x))
    (q : ∀ (t : Addr) (H' : Hp), Same H H' → H' t = some (.tup [.str (at1 pl x).1, .int (at1 pl x).2]) → Q (.ref t) H') : tDGet2 td ty (tTup (tCons tz (tCons (tC (.int 0)) tNil))) σ H Q := by
  refine h1 _ ⟨d, rfl, .inl ⟨kvs, .inl hd⟩, h2 _ (h3 _ ⟨by show 2 ≤ sizeLine; decide, fun t ht => ?_⟩)⟩
  have s1 : Same H (upd H t (.tup [.str x, .int 0])) := same_upd ht
  refine ⟨_, DGet.k (k := .inr x) (s1 _ _ hd), ?_⟩
  rcases hp.look x with ⟨a1, a2⟩ | ⟨t', e', a1, a2, a3⟩
  · rw [a1]
    refine q t _ s1 ?_
    unfold at1
    rw [a2]
    exact upd_same
  · rw [a1]
    refine q t' _ s1 ?_
    unfold at1
    rw [a2]
    exact s1 _ _ a3
def spPut (K : PySem.W.Frag) : Sp := fun vs H Q _ => ∃ (a d : Addr) (ts : List Addr) (rs : List Say) (kvs : List (Key × V)) (pl : List Say), vs = [.ref a, .ref d] ∧ H a = some (.lst (ts.map V.ref)) ∧ TriAt H ts rs ∧
  rs.length ≤ 1000 ∧ H d = some (.dK kvs) ∧ PlAt H kvs pl ∧ ∀ (l : Addr) (H' : Hp), H l = none → Same H H' → RowsAt H' l (putS pl rs) → Q (.ref l) H'
theorem ok_put {f fS : Addr} {fd fdS : FuncData} (F : Fun K "_law_put" "_law_put" sPut f fd) (FS : Fun K "_law_says" "_law_says" sSays fS fdS) (bS : Binds K fdS ["one", "other", "number"] [])
    (gS : mg "_law_says" = some (.ref fS)) : FnOk P w K mg base CX0 2 f fd ["sayings", "places"] (spPut K) := by
  have GS : FnOk P w K mg base CX0 1 fS fdS ["one", "other", "number"] spSays := ok_says FS
  refine F.ok scPut (fun vs H Q E h => ?_) (fun cdv A outer s H vs Q E hr h => ?_)
  · obtain ⟨a, d, ts, rs, kvs, pl, rfl, _⟩ := h
    rfl
  · obtain ⟨a, d, ts, rs, kvs, pl, rfl, ha, ht, hl, hd, hp, k⟩ := h
    have hu := hu_of hr
    refine ⟨_, pss_cons (ps_set (i := 2) scPut.nd rfl (.inl rfl) (pe_lst pa_nil))
      (pss_cons (ps_for PassesOwn.never rfl (pi_list (pv 0)) (pg_tup rfl (pgs_cons (pg_name (i := 3) scPut.nd rfl (.inl rfl)) (pgs_cons (pg_name (i := 4) scPut.nd rfl (.inl rfl)) (pgs_cons (pg_name (i := 5) scPut.nd rfl (.inl rfl)) pgs_nil))))
        (pss_one (ps_set (i := 2) scPut.nd rfl (.inl rfl) (pe_op op_cat (pv 2) (pe_call GS hr rfl gS FS.kp bS .nil pass0
          (pa_cons (pe_dget2 hu (pv 1) (pv 3) (pe_tup (pa_cons (pv 3) (pa_cons pe_int pa_nil))) (by constructor <;> rfl)) (pa_cons (pe_dget2 hu (pv 1) (pv 4) (pe_tup (pa_cons (pv 4) (pa_cons pe_int pa_nil))) (by constructor <;> rfl)) (pa_cons (pv 5) pa_nil)))))))) 
      (pss_one (ps_ret (pv 2)))), ?_⟩
    refine ⟨Nat.zero_le _, fun l0 n0 => ?_⟩
    have lenTs : ts.length = rs.length := Paired.length ht
    refine ⟨_, rfl, a, rfl, ⟨_, SqL.of (same_upd n0 _ _ ha)⟩, for_list (xs := ts.map V.ref)
      (fun i σ H2 => ∃ l x3 x4 x5, σ = [some (.ref a), some (.ref d), some (.ref l), x3, x4, x5] ∧ Same H H2 ∧ H l = none ∧ RowsAt H2 l (putS pl (rs.take i)))
      ⟨l0, none, none, none, rfl, same_upd n0, n0, [], upd_same, .nil⟩ (fun i σ H2 _ ⟨_, _, _, _, _, s2, _⟩ => SqL.of (s2 _ _ ha)) ?_ ?_⟩
    · rintro i y σ H2 hi ⟨l, x3, x4, x5, rfl, s2, nl, l1, e1, t1⟩
      rw [List.getElem?_map] at hi
      obtain ⟨t, ti, rfl⟩ : ∃ t, ts[i]? = some t ∧ V.ref t = y := by
        cases q : ts[i]? with
        | none => rw [q] at hi; cases hi
        | some t => rw [q] at hi; exact ⟨t, rfl, Option.some.inj hi⟩
      obtain ⟨r, ri, rt⟩ := Paired.at ht ti
      have rt2 := s2 _ _ rt
      refine ⟨t, [.str r.1, .str r.2.1, .int r.2.2], rfl, SqT.of rt2, rfl, _, _, rfl, _, _, rfl, _, _, rfl, rfl, ?_⟩
      refine ⟨.ref l, rfl, ?_⟩
      dsimp only
      refine call_cons ?_
      refine get_place (x := r.1) (s2 _ _ hd) (hp.same s2) ?_ ?_ ?_ fun p1 H3 s3 g1 => ?_
      iterate 3 exact val_var rfl
      refine cons_go ?_
      refine get_place (x := r.2.1) (s3 _ _ (s2 _ _ hd)) ((hp.same s2).same s3) ?_ ?_ ?_ fun p2 H4 s4 g2 => ?_
      iterate 3 exact val_var rfl
      refine ⟨.int r.2.2, rfl, p1, p2, _, _, _, _, _, rfl, s4 _ _ g1, g2, fun b H5 nb s5 ⟨ls, eb, tb⟩ => ?_⟩
      have e1' := s5 _ _ (s4 _ _ (s3 _ _ e1))
      have ll : l1.length ≤ 1000 := by
        have z1 : l1.length = (putS pl (rs.take i)).length := Paired.length t1
        have z2 := putS_len pl (rs.take i)
        have z3 : (rs.take i).length ≤ rs.length := by rw [List.length_take]; exact Nat.min_le_right _ _
        omega
      have lb : ls.length ≤ 1 := by
        have z1 : ls.length = (says (at1 pl r.1) (at1 pl r.2.1) r.2.2).length := Paired.length tb
        have z2 := says_len (at1 pl r.1) (at1 pl r.2.1) r.2.2
        omega
      refine ⟨l, b, _, _, rfl, rfl, e1', eb, ?_, fun p np => ?_⟩
      · rw [List.length_map, List.length_map, sizeLine_eq]; omega
      · have sAll : Same H H5 := ((s2.trans s3).trans s4).trans s5
        refine ⟨p, _, _, _, rfl, sAll.trans (same_upd np), sAll.free np, l1 ++ ls, ?_, ?_⟩
        · rw [upd_same, List.map_append]
        · rw [List.take_add_one, ri]
          show TriAt _ (l1 ++ ls) (putS pl (rs.take i ++ [r]))
          rw [putS_snoc]
          exact Paired.app (TriAt.same (TriAt.same (TriAt.same (TriAt.same t1 s3) s4) s5) (same_upd np)) (TriAt.same tb (same_upd np))
    · rintro σ H2 ⟨l, x3, x4, x5, rfl, s2, nl, hR⟩
      rw [List.length_map, lenTs, List.take_length] at hR
      exact ⟨.ref l, rfl, k l H2 nl s2 hR⟩
/-! ### _law_terms -/
def okS (x : Str) : Prop := x.length ≤ 10 ∧ ∀ c ∈ x.cps.toList, c < 128
theorem len_eq (x : Str) : x.length = x.cps.toList.length := by simp [Str.length]
theorem cps_app (x y : Str) : (x ++ y).cps.toList = x.cps.toList ++ y.cps.toList := by
  show (x.cps ++ y.cps).toList = _
  simp
theorem okS_app {x y : Str} (hx : okS x) (hy : okS y) (l : x.length + y.length ≤ 10) : okS (x ++ y) := by
  refine ⟨?_, fun c hc => ?_⟩
  · rw [len_eq, cps_app, List.length_append, ← len_eq, ← len_eq]; exact l
  · rw [cps_app] at hc
    rcases List.mem_append.mp hc with h | h
    · exact hx.2 c h
    · exact hy.2 c h
theorem okS_mul {c : Nat} {n : Int} (hc : c < 128) (h0 : 1 ≤ n) (h1 : n ≤ 5) : okS (Txt.mul ⟨#[c]⟩ n) ∧ (Txt.mul ⟨#[c]⟩ n).length ≤ 5 := by
  have e : ∀ l : List Nat, (∀ d ∈ l, d = c) → l.length ≤ 5 → okS ⟨l.toArray⟩ ∧ (⟨l.toArray⟩ : Str).length ≤ 5 := by
    intro l hl h5
    refine ⟨⟨?_, fun d hd => ?_⟩, ?_⟩
    · show l.toArray.size ≤ 10; rw [List.size_toArray]; omega
    · rw [hl d (by simpa using hd)]; exact hc
    · show l.toArray.size ≤ 5; rw [List.size_toArray]; exact h5
  rcases (show n = 1 ∨ n = 2 ∨ n = 3 ∨ n = 4 ∨ n = 5 by omega) with h | h | h | h | h <;> subst h
  · exact e [c] (by simp) (by show 1 ≤ 5; decide)
  · exact e [c, c] (by simp) (by show 2 ≤ 5; decide)
  · exact e [c, c, c] (by simp) (by show 3 ≤ 5; decide)
  · exact e [c, c, c, c] (by simp) (by show 4 ≤ 5; decide)
  · exact e [c, c, c, c, c] (by simp) (by show 5 ≤ 5; decide)
theorem atI_in {α : Type} {xs : List α} {i : Int} (h0 : -(xs.length : Int) ≤ i) (h1 : i < xs.length) : ∃ c, atI xs i = some c ∧ c ∈ xs := by
  have hk : ∃ j : Nat, ixN xs.length i = some j ∧ j < xs.length := by
    unfold ixN
    by_cases h : 0 ≤ i
    · exact ⟨i.toNat, by rw [if_pos h, if_pos h1], by omega⟩
    · exact ⟨(i + xs.length).toNat, by rw [if_neg h, if_pos h0], by omega⟩
  obtain ⟨j, e, hj⟩ := hk
  refine ⟨xs[j], ?_, List.getElem_mem hj⟩
  unfold atI
  rw [e]
  simp [hj]
def abc : Str := "abcdefghijklmnopqrstuvwxyz"
theorem abc_len : abc.cps.toList.length = 26 := by decide +kernel
theorem abc_ok : ∀ c ∈ abc.cps.toList, c < 128 := by decide +kernel
def spTerms : Sp := fun vs H Q _ => ∃ (p : Addr) (m : Int), vs = [.ref p] ∧ HandAt H p m ∧ m ≤ 100000 ∧
  ∀ (l : Addr) (t3 t4 t5 : Str) (H' : Hp), okS t3 → okS t4 → okS t5 → H l = none → H' l = some (.lst [.str "", .str "out", .str "#out", .str t3, .str t4, .str t5]) →
    HandAt H' p (m + 2) → KeepBut p H H' → Q (.ref l) H'
theorem ok_terms {f fF : Addr} {fd fdF : FuncData} (F : Fun K "_law_terms" "_law_terms" sTerms f fd) (FF : Fun K "_law_from" "_law_from" sFrom fF fdF) (bF : Binds K fdF ["hand", "many"] [])
    (gF : mg "_law_from" = some (.ref fF)) (GF : FnOk P w K mg base CX0 2 fF fdF ["hand", "many"] spFrom) : FnOk P w K mg base CX0 3 f fd ["hand"] spTerms := by
  refine F.ok scTerms (fun vs H Q E h => ?_) (fun cdv A outer s H vs Q E hr h => ?_)
  · obtain ⟨p, m, rfl, _⟩ := h
    rfl
  · obtain ⟨p, m, rfl, hp, hm, q⟩ := h
    refine ⟨_, pss_cons (ps_set (i := 1) scTerms.nd rfl (.inl rfl) pe_str)
      (pss_cons (ps_set (i := 2) scTerms.nd rfl (.inl rfl) (pe_call GF hr rfl gF FF.kp bF .nil pass0 (pa_cons (pv 0) (pa_cons pe_int pa_nil))))
      (pss_cons (ps_set (i := 3) scTerms.nd rfl (.inl rfl) (pe_op op_mulS (pe_ix ix_str (pv 1) (pv 2) (fun _ _ => rfl))
        (pe_op op_add pe_int (pe_call GF hr rfl gF FF.kp bF .nil pass0 (pa_cons (pv 0) (pa_cons pe_int pa_nil))))))
      (pss_one (ps_ret (pe_lst (pa_cons pe_str (pa_cons pe_str (pa_cons pe_str (pa_cons (pv 3) (pa_cons (pe_op op_add_str pe_str (pv 3)) (pa_cons (pe_op op_add_str (pv 3)
        (pe_ix ix_str (pv 1) (pe_op op_sub (pv 2) pe_int) (fun _ _ => rfl))) pa_nil))))))))))), ?_⟩
    have small : ∀ n : Nat, n ≤ 1000 → n ≤ sizeLine := fun n h => Nat.le_of_lt (small1000 h)
    refine ⟨.ref p, rfl, p, _, m, rfl, hp, by omega, by decide, by decide, fun v H1 v0 v1 h1 k1 => ?_⟩
    obtain ⟨c, ec, mc⟩ := atI_in (xs := abc.cps.toList) (i := v) (by rw [abc_len]; omega) (by rw [abc_len]; omega)
    obtain ⟨d, ed, md⟩ := atI_in (xs := abc.cps.toList) (i := v - 1) (by rw [abc_len]; omega) (by rw [abc_len]; omega)
    have labc : abc.length ≤ sizeLine := small _ (by rw [len_eq, abc_len]; decide)
    refine ⟨_, rfl, _, rfl, abc, v, c, rfl, rfl, labc, ec, ?_⟩
    refine ⟨.ref p, rfl, p, _, m + 1, rfl, h1, by omega, by decide, by decide, fun u H2 u0 u1 h2 k2 => ?_⟩
    refine ⟨_, _, rfl, rfl, ⟨#[c]⟩, 1 + u, rfl, rfl, by omega, by omega, by show 1 ≤ 1000; decide, ?_⟩
    obtain ⟨ok3, l3⟩ := okS_mul (c := c) (n := 1 + u) (abc_ok c mc) (by omega) (by omega)
    generalize Txt.mul ⟨#[c]⟩ (1 + u) = t3 at ok3 l3
    have okd : okS ⟨#[d]⟩ := ⟨by show 1 ≤ 10; decide, fun x hx => by
      have : x = d := by simpa using hx
      rw [this]; exact abc_ok d md⟩
    have okh : okS "#" := ⟨by decide +kernel, by decide +kernel⟩
    have lh : ("#" : Str).length = 1 := by decide +kernel
    have ld : (⟨#[d]⟩ : Str).length = 1 := rfl
    refine ⟨_, rfl, _, rfl, _, _, rfl, rfl, small _ (by rw [lh]; omega), ?_⟩
    refine ⟨_, rfl, _, rfl, _, rfl, _, _, rfl, rfl, abc, v - 1, d, rfl, rfl, labc, ed, ?_⟩
    refine ⟨_, _, rfl, rfl, small _ (by rw [ld]; omega), ?_⟩
    refine ⟨by show 6 ≤ sizeLine; decide, fun l nl => ?_⟩
    have k3 : KeepBut p H (upd H2 l (.lst [.str "", .str "out", .str "#out", .str t3, .str ("#" ++ t3), .str (t3 ++ ⟨#[d]⟩)])) := (k1.trans k2).new nl
    have fresh : H l = none := by
      cases e : H l with
      | none => rfl
      | some o =>
        by_cases z : l = p
        · obtain ⟨_, _, _, e2, _⟩ := h2
          rw [z, e2] at nl; cases nl
        · rw [(k1.trans k2) l o z e] at nl; cases nl
    exact q l t3 _ _ _ ok3 (okS_app okh ok3 (by rw [lh]; omega)) (okS_app ok3 okd (by rw [ld]; omega)) fresh upd_same ((h2.same (same_upd nl)).mono (by omega)) k3
end
end K30
set_option Elab.async false
set_option linter.all false
set_option maxRecDepth 100000
set_option maxHeartbeats 2000000
namespace K30
open PySem PySem.Spec PyProof.Rows L2 Sg
/-! ### the data -/
def triD (r : Say) : PyData := .tuple [.str r.1, .str r.2.1, .int r.2.2]
def rowsD (rs : List Say) : PyData := .tuple (rs.map triD)
def GoodR (r : Say) : Prop := okS r.1 ∧ okS r.2.1 ∧ r.2.2.natAbs < 10 ^ 32
structure RowsOk (d : PyData) : Prop where
  sh : d.showable = true
  nd : d.hasDict = false
  dp : d.depth ≤ 60
  ln : d.shown.length ≤ sizeLine
  sp : SeqAt.shaped d = true
  lay : d.canLay0 = true
theorem log_of {n : Nat} (h : n < 10 ^ 32) : n.log2 < 107 := by
  by_cases h0 : n = 0
  · subst h0; decide
  · exact (Nat.log2_lt h0).mpr (Nat.lt_of_lt_of_le h (by decide))
theorem tri_facts {r : Say} (h : GoodR r) : (triD r).showable = true ∧ (triD r).hasDict = false ∧ (triD r).depth ≤ 1 ∧ (triD r).leavesShort 40 = true ∧ (triD r).weight ≤ 130 ∧ (triD r).canLay0 = true := by
  obtain ⟨⟨a1, a2⟩, ⟨b1, b2⟩, c⟩ := h
  have hl := log_of c
  have ok : ∀ {x : Str}, (∀ d ∈ x.cps.toList, d < 128) → PyData.strOk x = true := by
    intro x hx
    unfold PyData.strOk
    rw [← Array.all_toList, List.all_eq_true]
    exact fun d hd => decide_eq_true (Nat.lt_of_lt_of_le (hx d hd) (by decide))
  refine ⟨?_, ?_, ?_, ?_, ?_, ?_⟩
  · simp only [triD, PyData.showable, PyData.showableAll, Bool.and_true, Bool.true_and]
    exact decide_eq_true (by omega)
  · simp [triD, PyData.hasDict, PyData.hasDictAll]
  · simp [triD, PyData.depth, PyData.depthAll]
  · have e1 : (r.1.cps.toList.all fun c => decide (c < 16 ^ 8)) = true := List.all_eq_true.mpr fun d hd => decide_eq_true (Nat.lt_of_lt_of_le (a2 d hd) (by decide))
    have e2 : (r.2.1.cps.toList.all fun c => decide (c < 16 ^ 8)) = true := List.all_eq_true.mpr fun d hd => decide_eq_true (Nat.lt_of_lt_of_le (b2 d hd) (by decide))
    have e3 : (PyData.shown (.int r.2.2)).length ≤ 40 := by
      have := int_text_length_le10 (k := 32) (by decide) c
      show (Str.ofString (toString r.2.2)).length ≤ 40
      rw [PySem.ofString_length]; omega
    simp only [triD, PyData.leavesShort, PyData.leavesShortAll, e1, e2, Bool.true_and, Bool.and_true]
    exact decide_eq_true e3
  · have w3 : PyData.weight (.int r.2.2) ≤ 107 := by
      simp only [PyData.weight]
      split
      · exact Nat.zero_le _
      · omega
    have w1 : r.1.cps.size ≤ 10 := a1
    have w2 : r.2.1.cps.size ≤ 10 := b1
    show PyData.weight (.str r.1) + 1 + (PyData.weight (.str r.2.1) + 1 + (PyData.weight (.int r.2.2) + 1 + 0)) ≤ 130
    have e1 : PyData.weight (.str r.1) = r.1.cps.size := by simp only [PyData.weight]
    have e2 : PyData.weight (.str r.2.1) = r.2.1.cps.size := by simp only [PyData.weight]
    omega
  · simp only [triD, PyData.canLay0, PyData.canLayAll0, ok a2, ok b2, Bool.and_true]
theorem all_facts : ∀ {rs : List Say}, (∀ r ∈ rs, GoodR r) → PyData.showableAll (rs.map triD) = true ∧ PyData.hasDictAll (rs.map triD) = false ∧ PyData.depthAll (rs.map triD) ≤ 1 ∧
    PyData.leavesShortAll 40 (rs.map triD) = true ∧ PyData.weightAll (rs.map triD) ≤ 131 * rs.length ∧ PyData.canLayAll0 (rs.map triD) = true
  | [], _ => by simp [PyData.showableAll, PyData.hasDictAll, PyData.depthAll, PyData.leavesShortAll, PyData.weightAll, PyData.canLayAll0]
  | r :: q, h => by
    obtain ⟨t1, t2, t3, t4, t5, t6⟩ := tri_facts (h r List.mem_cons_self)
    obtain ⟨a1, a2, a3, a4, a5, a6⟩ := all_facts (rs := q) fun x hx => h x (List.mem_cons_of_mem _ hx)
    simp only [List.map_cons, PyData.showableAll, PyData.hasDictAll, PyData.depthAll, PyData.leavesShortAll, PyData.weightAll, PyData.canLayAll0, List.length_cons, t1, t2, t4, t6, a1, a2, a4, a6]
    refine ⟨rfl, rfl, by omega, rfl, by omega, rfl⟩
theorem rows_ok {rs : List Say} (h : ∀ r ∈ rs, GoodR r) (hl : rs.length ≤ 1000) : RowsOk (rowsD rs) := by
  obtain ⟨a1, a2, a3, a4, a5, a6⟩ := all_facts h
  have ed : (rowsD rs).depth ≤ 2 := by
    simp only [rowsD, PyData.depth]; omega
  have el : (rowsD rs).canLay0 = true := by simpa only [rowsD, PyData.canLay0] using a6
  refine ⟨by simpa only [rowsD, PyData.showable] using a1, by simpa only [rowsD, PyData.hasDict] using a2, by omega, ?_, ?_, el⟩
  · have := PyData.shown_le 40 (by decide) (rowsD rs) (by simpa only [rowsD, PyData.leavesShort] using a4)
    have hw : (rowsD rs).weight ≤ 131 * 1000 := by
      simp only [rowsD, PyData.weight]; omega
    rw [sizeLine_eq]; omega
  · unfold SeqAt.shaped
    rw [el, decide_eq_true (by omega)]; rfl
/-! ### what stands in the heap as data -/
theorem TriAt.dp {K : PySem.W.Frag} {H : Hp} {ts : List Addr} {rs : List Say} (h : TriAt H ts rs) : DpAll K H (ts.map V.ref) (rs.map triD) := by
  unfold TriAt at h
  induction h with
  | nil => exact .nil
  | cons e _ ih => exact .cons (.tup (SqT.of e) (.cons (.str _) (.cons (.str _) (.cons (.int _) .nil)))) ih
/-! ### goodness -/
def GoodE (e : Str × Int) : Prop := okS e.1 ∧ e.2.natAbs < 10 ^ 31
def GoodS (r : Say) : Prop := okS r.1 ∧ okS r.2.1 ∧ r.2.2.natAbs < 10 ^ 31
theorem okS_nil : okS "" := ⟨by decide +kernel, by decide +kernel⟩
theorem look_in {pl : List Say} {x : Str} {e : Str × Int} (h : look pl x = some e) : ∃ q ∈ pl, q.2 = e := by
  unfold look at h
  cases c : pl.find? (fun q => decide (q.1 = x)) with
  | none => rw [c] at h; cases h
  | some q =>
    rw [c] at h
    exact ⟨q, List.mem_of_find?_eq_some c, Option.some.inj h⟩
theorem at1_good {pl : List Say} {x : Str} (hp : ∀ q ∈ pl, GoodE q.2) (hx : okS x) : GoodE (at1 pl x) := by
  unfold at1
  cases c : look pl x with
  | none => exact ⟨hx, by show (0 : Int).natAbs < 10 ^ 31; decide⟩
  | some e =>
    obtain ⟨q, m, rfl⟩ := look_in c
    exact hp q m
theorem put_good {pl rs : List Say} (hp : ∀ q ∈ pl, GoodE q.2) (hr : ∀ r ∈ rs, GoodS r) : ∀ r ∈ putS pl rs, GoodR r := by
  intro r hm
  unfold putS at hm
  obtain ⟨s, ms, m⟩ := List.mem_flatMap.mp hm
  obtain ⟨s1, s2, s3⟩ := hr s ms
  obtain ⟨a1, a2⟩ := at1_good hp s1
  obtain ⟨b1, b2⟩ := at1_good hp s2
  unfold put1 says at m
  split at m
  · split at m
    · have e : r = (("", "", s.2.2 + (at1 pl s.2.1).2 - (at1 pl s.1).2) : Say) := by simpa using m
      subst e
      exact ⟨okS_nil, okS_nil, by show (s.2.2 + (at1 pl s.2.1).2 - (at1 pl s.1).2).natAbs < _; omega⟩
    · cases m
  · have e : r = ((at1 pl s.1).1, (at1 pl s.2.1).1, s.2.2 + (at1 pl s.2.1).2 - (at1 pl s.1).2) := by simpa using m
    subst e
    exact ⟨a1, b1, by show (s.2.2 + (at1 pl s.2.1).2 - (at1 pl s.1).2).natAbs < _; omega⟩
/-! ### the dict of places -/
def plPut (pl : List Say) (x : Str) (e : Str × Int) : List Say := if (pl.any fun q => decide (q.1 = x)) = true then pl.map (fun q => if q.1 = x then (q.1, e) else q) else pl ++ [(x, e)]
theorem PlAt.any {H : Hp} {kvs : List (Key × V)} {pl : List Say} (h : PlAt H kvs pl) (x : Str) : (kvs.any fun kv => decide (kv.1 = (.inr x : Key))) = pl.any fun q => decide (q.1 = x) := by
  unfold PlAt at h
  induction h with
  | nil => rfl
  | @cons kv e r q h1 h2 ih =>
    rw [List.any_cons, List.any_cons, ih, h1.1]
    congr 1
    by_cases c : e.1 = x
    · rw [decide_eq_true c, decide_eq_true (by rw [c])]
    · rw [decide_eq_false c, decide_eq_false (fun z => c (Sum.inr.inj z))]
theorem PlAt.put {H : Hp} {kvs : List (Key × V)} {pl : List Say} {x : Str} {e : Str × Int} {t : Addr} (h : PlAt H kvs pl) (ht : H t = some (.tup [.str e.1, .int e.2])) : PlAt H (putK kvs (.inr x) (.ref t)) (plPut pl x e) := by
  unfold putK plPut
  rw [h.any x]
  by_cases c : (pl.any fun q => decide (q.1 = x)) = true
  · rw [if_pos c, if_pos c]
    clear c
    unfold PlAt at h ⊢
    induction h with
    | nil => exact .nil
    | @cons kv q r s h1 h2 ih =>
      rw [List.map_cons, List.map_cons]
      refine .cons ?_ ih
      by_cases d : q.1 = x
      · rw [if_pos (by rw [h1.1, d]), if_pos d]
        exact ⟨h1.1, t, rfl, ht⟩
      · rw [if_neg (by rw [h1.1]; exact fun z => d (Sum.inr.inj z)), if_neg d]
        exact h1
  · rw [if_neg c, if_neg c]
    exact Paired.app h (.cons ⟨rfl, t, rfl, ht⟩ .nil)
theorem plPut_len (pl : List Say) (x : Str) (e : Str × Int) : (plPut pl x e).length ≤ pl.length + 1 := by
  unfold plPut
  split
  · rw [List.length_map]; omega
  · rw [List.length_append]; exact Nat.le_refl _
theorem plPut_good {pl : List Say} {x : Str} {e : Str × Int} (hp : ∀ q ∈ pl, GoodE q.2) (he : GoodE e) : ∀ q ∈ plPut pl x e, GoodE q.2 := by
  intro q hq
  unfold plPut at hq
  split at hq
  · obtain ⟨s, ms, es⟩ := List.mem_map.mp hq
    split at es
    · rw [← es]; exact he
    · rw [← es]; exact hp s ms
  · rcases List.mem_append.mp hq with m | m
    · exact hp q m
    · have : q = (x, e) := by simpa using m
      rw [this]; exact he
theorem plPut_nd {pl : List Say} {x : Str} {e : Str × Int} (h : (pl.map (·.1)).Nodup) : ((plPut pl x e).map (·.1)).Nodup := by
  unfold plPut
  split
  · rw [List.map_map]
    have : ((·.1) ∘ fun (q : Say) => if q.1 = x then (q.1, e) else q) = fun (q : Say) => q.1 := by
      funext q
      show (if q.1 = x then (q.1, e) else q).1 = q.1
      split <;> rfl
    rw [this]; exact h
  · rename_i c
    rw [List.map_append, List.nodup_append]
    refine ⟨h, by simp, fun a ha b hb => ?_⟩
    have eb : b = x := by simpa using hb
    subst eb
    rintro rfl
    obtain ⟨q, mq, eq⟩ := List.mem_map.mp ha
    exact c (List.any_eq_true.mpr ⟨q, mq, decide_eq_true eq⟩)
theorem PlAt.keys {H : Hp} {kvs : List (Key × V)} {pl : List Say} (h : PlAt H kvs pl) (nd : (pl.map (·.1)).Nodup) : (kvs.map (·.1)).Nodup ∧ ∀ p ∈ kvs, ∃ c, p.2 = .ref c := by
  have e : kvs.map (·.1) = (pl.map (·.1)).map Sum.inr := by
    unfold PlAt at h
    clear nd
    induction h with
    | nil => rfl
    | cons h1 _ ih => rw [List.map_cons, List.map_cons, List.map_cons, ih, h1.1]
  refine ⟨?_, ?_⟩
  · rw [e]
    unfold List.Nodup at nd ⊢
    rw [List.pairwise_map]
    exact nd.imp fun n z => n (Sum.inr.inj z)
  · clear e nd
    unfold PlAt at h
    induction h with
    | nil => intro p hp; cases hp
    | cons h1 _ ih =>
      intro p hp
      rcases List.mem_cons.mp hp with rfl | hp
      · exact ⟨_, h1.2.choose_spec.1⟩
      · exact ih p hp
end K30
set_option Elab.async false
set_option linter.all false
set_option maxRecDepth 100000
set_option maxHeartbeats 4000000
namespace K30
open PySem PySem.Spec PyProof.Rows L2 Sg
/-! ### a turn's state -/
structure Turn (H0 H : Hp) (p lt ls dp : Addr) (m : Int) (t : List Str) (ts : List Addr) (rs : List Say) (kvs : List (Key × V)) (pl : List Say) : Prop where
  same : Same H0 H
  np : H0 p = none
  nt : H0 lt = none
  ns : H0 ls = none
  nd : H0 dp = none
  hand : HandAt H p m
  terms : H lt = some (.lst (t.map V.str))
  say : H ls = some (.lst (ts.map V.ref))
  tri : TriAt H ts rs
  pls : H dp = some (.dK kvs)
  pa : PlAt H kvs pl
  ne1 : ls ≠ lt
  ne2 : p ≠ dp
  gt : ∀ x ∈ t, okS x
  gr : ∀ r ∈ rs, GoodS r
  gp : ∀ q ∈ pl, GoodE q.2
  nk : (pl.map (·.1)).Nodup
section
variable {H0 H H' : Hp} {p lt ls dp : Addr} {m m' : Int} {t : List Str} {ts : List Addr} {rs : List Say} {kvs : List (Key × V)} {pl : List Say}
theorem Turn.stay (T : Turn H0 H p lt ls dp m t ts rs kvs pl) (s : Same H H') : Turn H0 H' p lt ls dp m t ts rs kvs pl :=
  ⟨T.same.trans s, T.np, T.nt, T.ns, T.nd, T.hand.same s, s _ _ T.terms, s _ _ T.say, T.tri.same s, s _ _ T.pls, T.pa.same s, T.ne1, T.ne2, T.gt, T.gr, T.gp, T.nk⟩
theorem Turn.from_ (T : Turn H0 H p lt ls dp m t ts rs kvs pl) (k : KeepBut p H H') (h : HandAt H' p m') : Turn H0 H' p lt ls dp m' t ts rs kvs pl := by
  obtain ⟨r, sd, n, ep, _⟩ := T.hand
  have nt : ∀ {a : Addr} {o : HO}, H a = some o → (∀ kv, o ≠ .dK kv) → H' a = some o := fun {a o} e d => k a o (ne_of e ep (d _)) e
  refine ⟨fun b o e => k b o (ne_of_none e T.np) (T.same b o e), T.np, T.nt, T.ns, T.nd, h, nt T.terms (fun _ z => by cases z), nt T.say (fun _ z => by cases z), ?_, k _ _ T.ne2.symm T.pls, ?_, T.ne1, T.ne2, T.gt, T.gr, T.gp, T.nk⟩
  · exact Paired.mapP T.tri fun _ _ e => nt e (fun _ z => by cases z)
  · exact Paired.mapP T.pa fun _ _ ⟨e1, c, e2, e3⟩ => ⟨e1, c, e2, nt e3 (fun _ z => by cases z)⟩
theorem Turn.app (T : Turn H0 H p lt ls dp m t ts rs kvs pl) {c : Addr} {r : Say} (hc : H c = some (triV r)) (g : GoodS r) :
    Turn H0 (upd H ls (.lst ((ts ++ [c]).map V.ref))) p lt ls dp m t (ts ++ [c]) (rs ++ [r]) kvs pl := by
  obtain ⟨rr, sd, n, ep, hn⟩ := T.hand
  have st : ∀ {a : Addr} {o : HO}, H a = some o → a ≠ ls → (upd H ls (.lst ((ts ++ [c]).map V.ref))) a = some o := fun {a o} e d => by rw [upd_ne d]; exact e
  have ne : ∀ {a : Addr} {o : HO}, H a = some o → (∀ kv, o ≠ .lst kv) → a ≠ ls := fun {a o} e d => ne_of e T.say (d _)
  have tri : ∀ {as : List Addr} {q : List Say}, TriAt H as q → TriAt (upd H ls (.lst ((ts ++ [c]).map V.ref))) as q := fun h => Paired.mapP h fun _ _ e => st e (ne e (fun _ z => by cases z))
  refine ⟨fun b o e => st (T.same b o e) (ne_of_none e T.ns), T.np, T.nt, T.ns, T.nd, ⟨rr, sd, n, st ep (ne ep (fun _ z => by cases z)), hn⟩, st T.terms T.ne1.symm, upd_same, Paired.app (tri T.tri) (tri (.cons hc .nil)),
    st T.pls (ne T.pls (fun _ z => by cases z)), Paired.mapP T.pa fun _ _ ⟨e1, d, e2, e3⟩ => ⟨e1, d, e2, st e3 (ne e3 (fun _ z => by cases z))⟩, T.ne1, T.ne2, T.gt, fun x hx => ?_, T.gp, T.nk⟩
  rcases List.mem_append.mp hx with h | h
  · exact T.gr x h
  · have : x = r := by simpa using h
    rw [this]; exact g
theorem Turn.put (T : Turn H0 H p lt ls dp m t ts rs kvs pl) {c : Addr} {x : Str} {e : Str × Int} (hc : H c = some (.tup [.str e.1, .int e.2])) (g : GoodE e) :
    Turn H0 (upd H dp (.dK (putK kvs (.inr x) (.ref c)))) p lt ls dp m t ts rs (putK kvs (.inr x) (.ref c)) (plPut pl x e) := by
  obtain ⟨rr, sd, n, ep, hn⟩ := T.hand
  have st : ∀ {a : Addr} {o : HO}, H a = some o → a ≠ dp → (upd H dp (.dK (putK kvs (.inr x) (.ref c)))) a = some o := fun {a o} e d => by rw [upd_ne d]; exact e
  have ne : ∀ {a : Addr} {o : HO}, H a = some o → (∀ kv, o ≠ .dK kv) → a ≠ dp := fun {a o} e d => ne_of e T.pls (d _)
  have pa : PlAt (upd H dp (.dK (putK kvs (.inr x) (.ref c)))) kvs pl := Paired.mapP T.pa fun _ _ ⟨e1, d, e2, e3⟩ => ⟨e1, d, e2, st e3 (ne e3 (fun _ z => by cases z))⟩
  exact ⟨fun b o e => st (T.same b o e) (ne_of_none e T.nd), T.np, T.nt, T.ns, T.nd, ⟨rr, sd, n, st ep T.ne2, hn⟩, st T.terms (ne T.terms (fun _ z => by cases z)), st T.say (ne T.say (fun _ z => by cases z)),
    Paired.mapP T.tri fun _ _ e => st e (ne e (fun _ z => by cases z)), upd_same, pa.put (st hc (ne hc (fun _ z => by cases z))), T.ne1, T.ne2, T.gt, T.gr, plPut_good T.gp g, plPut_nd T.nk⟩
end
theorem KeepBut.fresh {p : Addr} {H H' : Hp} {q : Addr} (k : KeepBut p H H') (h : H' p ≠ none) (n : H' q = none) : H q = none := by
  cases e : H q with
  | none => rfl
  | some o =>
    by_cases z : q = p
    · rw [z] at n; exact absurd n h
    · rw [k q o z e] at n; cases n
theorem KeepBut.toSame {p : Addr} {H0 H H' : Hp} (k : KeepBut p H H') (n : H0 p = none) (s : Same H0 H) : Same H0 H' := fun b o e => k b o (ne_of_none e n) (s b o e)
theorem Turn.term {H0 H : Hp} {p lt ls dp : Addr} {m : Int} {t : List Str} {ts : List Addr} {rs : List Say} {kvs : List (Key × V)} {pl : List Say} (T : Turn H0 H p lt ls dp m t ts rs kvs pl) (h6 : t.length = 6)
    {i : Int} (h0 : 0 ≤ i) (h1 : i < 6) : ∃ x, atI (t.map V.str) i = some (.str x) ∧ okS x := by
  obtain ⟨c, e, mc⟩ := atI_in (xs := t.map V.str) (i := i) (by rw [List.length_map]; omega) (by rw [List.length_map]; omega)
  obtain ⟨x, mx, ex⟩ := List.mem_map.mp mc
  exact ⟨x, by rw [e, ← ex], T.gt x mx⟩
theorem Turn.mono {H0 H : Hp} {p lt ls dp : Addr} {m m' : Int} {t : List Str} {ts : List Addr} {rs : List Say} {kvs : List (Key × V)} {pl : List Say} (T : Turn H0 H p lt ls dp m t ts rs kvs pl) (l : m ≤ m') :
    Turn H0 H p lt ls dp m' t ts rs kvs pl := ⟨T.same, T.np, T.nt, T.ns, T.nd, T.hand.mono l, T.terms, T.say, T.tri, T.pls, T.pa, T.ne1, T.ne2, T.gt, T.gr, T.gp, T.nk⟩
theorem Paired.rev {α β : Type} {F : α → β → Prop} {a : List α} {c : List β} (h : Paired F a c) : Paired F a.reverse c.reverse := by
  induction h with
  | nil => exact .nil
  | cons h1 _ ih =>
    rw [List.reverse_cons, List.reverse_cons]
    exact Paired.app ih (.cons h1 .nil)
theorem same_ne (d : Str) : V.bl (!decide (V.str d = V.str d)) = V.bl false := by simp
theorem num_good {n : Int} (h0 : -(10 ^ 30) ≤ n) (h1 : n ≤ 10 ^ 30) : n.natAbs < 10 ^ 31 := by omega
/-! ### the law -/
theorem scLaw : FnScope ["script", "k", "hand", "terms", "sayings", "places", "j", "at", "other", "term", "handed", "others", "due", "found", "again"] ["script"] (defScope sLaw) :=
  ⟨rfl, rfl, rfl, by decide +kernel, rfl, by decide +kernel, by decide +kernel⟩
section
variable {P : Program} {w : World} {K : PySem.W.Frag} {mg : Str → Option Value} {base : Heap}
def spIn : Sp := fun vs H Q _ => ∃ (a d : Addr) (ts : List Addr) (rs : List Say) (kvs : List (Key × V)) (pl : List Say), vs = [.ref a, .ref d] ∧ H a = some (.tup (ts.map V.ref)) ∧ TriAt H ts rs ∧
  rs.length ≤ 1000 ∧ H d = some (.dK kvs) ∧ PlAt H kvs pl ∧ ∀ (q : Addr) (us : List Addr) (H' : Hp), Same H H' → H' q = some (.tup (us.map V.ref)) → TriAt H' us (putS pl rs) → Q (.ref q) H'
def spLaw (K : PySem.W.Frag) : Sp := fun vs H Q _ => ∃ (a : Addr) (ns : List Int), vs = [.ref a] ∧ SqL K H a (ns.map V.int) ∧ ns.length ≤ 63 ∧ ∀ H', Q (.bl true) H'
structure LawTxt (mg : Str → Option Value) (fH fF fN fT fP fI : Addr) : Prop where
  gH : mg "_law_hand" = some (.ref fH)
  gF : mg "_law_from" = some (.ref fF)
  gN : mg "_law_number" = some (.ref fN)
  gT : mg "_law_terms" = some (.ref fT)
  gP : mg "_law_put" = some (.ref fP)
  gI : mg "put_in" = some (.ref fI)
  mLen : mg "len" = none
  mRange : mg "range" = none
  mMax : mg "max" = none
  mMin : mg "min" = none
  mRepr : mg "repr" = none
  mTuple : mg "tuple" = none
  mDict : mg "dict" = none
theorem ok_law {f fH fF fN fT fP fI : Addr} {fd fdH fdF fdN fdT fdP fdI : FuncData} (F : Fun K "law" "law" sLaw f fd) (T : LawTxt mg fH fF fN fT fP fI)
    (kH : PySem.W.keepIn K (.ref fH) = true) (bH : Binds K fdH ["script", "k"] []) (GH : FnOk P w K mg base CX0 3 fH fdH ["script", "k"] (spHand K))
    (kF : PySem.W.keepIn K (.ref fF) = true) (bF : Binds K fdF ["hand", "many"] []) (GF : FnOk P w K mg base CX0 3 fF fdF ["hand", "many"] spFrom)
    (kN : PySem.W.keepIn K (.ref fN) = true) (bN : Binds K fdN ["hand"] []) (GN : FnOk P w K mg base CX0 3 fN fdN ["hand"] spNumber)
    (kT : PySem.W.keepIn K (.ref fT) = true) (bT : Binds K fdT ["hand"] []) (GT : FnOk P w K mg base CX0 3 fT fdT ["hand"] spTerms)
    (kP : PySem.W.keepIn K (.ref fP) = true) (bP : Binds K fdP ["sayings", "places"] []) (GP : FnOk P w K mg base CX0 3 fP fdP ["sayings", "places"] (spPut K))
    (kI : PySem.W.keepIn K (.ref fI) = true) (bI : Binds K fdI ["sayings", "places"] []) (GI : FnOk P w K mg base CX0 3 fI fdI ["sayings", "places"] spIn) :
    FnG P w K mg base CX0 4 f fd ["script"] (spLaw K) := by
  refine fnG_of F scLaw (fun vs H Q E h => ?_) (fun cdv B fr s H vs Q E hg hr h => ?_)
  · obtain ⟨a, ns, rfl, _⟩ := h
    rfl
  · obtain ⟨a, ns, rfl, hS, hlen, q⟩ := h
    have hu := hu_of hr
    have hgd := deeper_guards (env := envOfC "law" (defScope sLaw) s.heap.objs.size f cdv) hg
    refine ⟨_, pss_cons (ps_for PassesOwn.never rfl (pi_range1 rfl T.mRange (pa_cons (pe_callB (call_max2 rfl) (by rfl) T.mMax (by decide +kernel) (pa_cons pe_int (pa_cons
        (pe_callB (call_min2 rfl) (by rfl) T.mMin (by decide +kernel) (pa_cons pe_int (pa_cons (pe_callB call_len_seq (by rfl) T.mLen PySem.boot_len (pa_cons (pv 0) pa_nil)) pa_nil))) pa_nil))) pa_nil))
        (pg_name (i := 1) scLaw.nd rfl (.inl rfl))
      -- hand = ..
      (pss_cons (ps_set (i := 2) scLaw.nd rfl (.inl rfl) (pe_call GH hr rfl T.gH kH bH .nil pass0 (pa_cons (pv 0) (pa_cons (pv 1) pa_nil))))
      -- terms, sayings, places = ..
      (pss_cons (ps_par3 (i := 3) (j := 4) (l := 5) rfl scLaw.nd rfl rfl rfl (by decide) (by decide) (by decide) rfl rfl rfl (pa_cons (pe_call GT hr rfl T.gT kT bT .nil pass0 (pa_cons (pv 2) pa_nil)) (pa_cons (pe_lst pa_nil) (pa_cons pe_dnewK pa_nil))) rfl)
      -- for j: sayings
      (pss_cons (ps_for PassesOwn.never rfl (pi_range1 rfl T.mRange (pa_cons (pe_call GF hr rfl T.gF kF bF .nil pass0 (pa_cons (pv 2) (pa_cons pe_int pa_nil))) pa_nil)) (pg_name (i := 6) scLaw.nd rfl (.inl rfl))
        (pss_cons (ps_set (i := 7) scLaw.nd rfl (.inl rfl) (pe_call GF hr rfl T.gF kF bF .nil pass0 (pa_cons (pv 2) (pa_cons pe_int pa_nil))))
        (pss_cons (ps_set (i := 8) scLaw.nd rfl (.inl rfl) (pe_op op_mod (pe_op op_add (pe_op op_add (pv 7) pe_int) (pe_call GF hr rfl T.gF kF bF .nil pass0 (pa_cons (pv 2) (pa_cons pe_int pa_nil)))) pe_int))
        (pss_one (ps_expr (pe_bm PySem.F.plainAttrs_list PySem.F.slot_list_append PySem.F.type_list_append mt_append (pv 4) (pa_cons (pe_tup (pa_cons (pe_ix ix_list (pv 3) (pv 7) (fun _ _ => rfl))
          (pa_cons (pe_ix ix_list (pv 3) (pv 8) (fun _ _ => rfl)) (pa_cons (pe_call GN hr rfl T.gN kN bN .nil pass0 (pa_cons (pv 2) pa_nil)) pa_nil)))) pa_nil)))))))
      -- for j: places
      (pss_cons (ps_for PassesOwn.never rfl (pi_range1 rfl T.mRange (pa_cons (pe_call GF hr rfl T.gF kF bF .nil pass0 (pa_cons (pv 2) (pa_cons pe_int pa_nil))) pa_nil)) (pg_name (i := 6) scLaw.nd rfl (.inl rfl))
        (pss_cons (ps_set (i := 9) scLaw.nd rfl (.inl rfl) (pe_ix ix_list (pv 3) (pe_op op_add pe_int (pe_call GF hr rfl T.gF kF bF .nil pass0 (pa_cons (pv 2) (pa_cons pe_int pa_nil)))) (fun _ _ => rfl)))
        (pss_one (ps_dput hu (pv 5) (pv 9) (pe_tup (pa_cons (pe_ix ix_list (pv 3) (pe_call GF hr rfl T.gF kF bF .nil pass0 (pa_cons (pv 2) (pa_cons pe_int pa_nil))) (fun _ _ => rfl))
          (pa_cons (pe_call GN hr rfl T.gN kN bN .nil pass0 (pa_cons (pv 2) pa_nil)) pa_nil))) rfl))))
      -- if ..
      (Evl.pss_cut (ps_if (pt_cmpR op_eq (pe_call GF hr rfl T.gF kF bF .nil pass0 (pa_cons (pv 2) (pa_cons pe_int pa_nil))) pe_int (nomark _))
        (pss_one (ps_expr (pe_bm PySem.F.plainAttrs_list PySem.F.slot_list_append PySem.F.type_list_append mt_append (pv 4) (pa_cons (pe_tup (pa_cons pe_str (pa_cons pe_str
          (pa_cons (pe_op op_sub (pe_un un_neg pe_int) (pe_call GF hr rfl T.gF kF bF .nil pass0 (pa_cons (pv 2) (pa_cons pe_int pa_nil)))) pa_nil)))) pa_nil)))) pss_nil)
      -- handed, others = ..
      (pss_cons (ps_asg (pe_tup (pa_cons (pe_callTy call_tuple_of (by rfl) T.mTuple (by decide +kernel) (pa_cons (pv 4) pa_nil)) (pa_cons (pe_callTy call_dictD (by rfl) T.mDict (by decide +kernel) (pa_cons (pv 5) pa_nil)) pa_nil)))
        (pg_tup rfl (pgs_cons (pg_name (i := 10) scLaw.nd rfl (.inr rfl)) (pgs_cons (pg_name (i := 11) scLaw.nd rfl (.inr rfl)) pgs_nil))))
      -- due = ..
      (pss_cons (ps_set (i := 12) scLaw.nd rfl (.inl rfl) (pe_callB (call_reprD hgd hr.units) (by rfl) T.mRepr (by decide +kernel) (pa_cons (pe_callTy call_tuple_of (by rfl) T.mTuple (by decide +kernel)
        (pa_cons (pe_call GP hr rfl T.gP kP bP .nil pass0 (pa_cons (pv 4) (pa_cons (pv 5) pa_nil))) pa_nil)) pa_nil)))
      (pss_cons (ps_setLc (i := 13) (own := [("again", 14)]) (g := gName 14) (tt := tYes) rfl scLaw.nd rfl rfl (sw_true rfl rfl rfl (by decide +kernel)) (pi_range1 rfl T.mRange (pa_cons pe_int pa_nil))
        (blkOk_by (N := ["script", "k", "hand", "terms", "sayings", "places", "j", "at", "other", "term", "handed", "others", "due", "found", "again"]) (sc := defScope sLaw) (by decide +kernel)) (fun _ _ _ _ _ => pg_name (i := 14) scLaw.nd rfl (.inl rfl)) (fun _ _ _ _ _ => pts_nil)
        (fun _ _ _ _ _ => pe_callB (id := "repr") (r := rRepr K) (call_reprD hgd hr.units) (by rfl) T.mRepr (by decide +kernel) (pa_cons (pe_call GI hr rfl T.gI kI bI .nil pass0 (pa_cons (pv 10) (pa_cons (pv 11) pa_nil))) pa_nil)))
      (pss_cons (ps_if (PW.pt (pw_or (pt_cmpR (op_neFlat hr.units0) (pv 13) (pe_op op_rep (pe_lst (pa_cons (pv 12) pa_nil)) pe_int) (nomark _))
        (pw_or (pt_cmpR (op_neD hr.units) (pv 10) (pe_callTy call_tuple_of (by rfl) T.mTuple (by decide +kernel) (pa_cons (pv 4) pa_nil)) (nomark _))
        (pw_or1 (pt_cmpR (op_neCopy hr.units0) (pv 11) (pv 5) (nomark _)))))) (pss_one (ps_ret pe_bl)) pss_nil)
      (pss_cons (ps_if (pt_cmpR op_ne (pe_callB (call_reprD hgd hr.units) (by rfl) T.mRepr (by decide +kernel) (pa_cons (pe_call GI hr rfl T.gI kI bI .nil pass0 (pa_cons (pe_revT (pv 10)) (pa_cons (pv 11) pa_nil))) pa_nil))
        (pe_callB (call_reprD hgd hr.units) (by rfl) T.mRepr (by decide +kernel) (pa_cons (pe_callTy call_tuple_of (by rfl) T.mTuple (by decide +kernel)
          (pa_cons (pe_call GP hr rfl T.gP kP bP .nil pass0 (pa_cons (pe_revL (pv 4)) (pa_cons (pv 5) pa_nil))) pa_nil)) pa_nil)) (nomark _)) (pss_one (ps_ret pe_bl)) pss_nil)
      (pss_cons (ps_if (pt_cmpR op_ne (pe_callB (call_reprD hgd hr.units) (by rfl) T.mRepr (by decide +kernel) (pa_cons (pe_call GI hr rfl T.gI kI bI .nil pass0 (pa_cons (pv 10) (pa_cons (pv 11) pa_nil))) pa_nil)) (pv 12) (nomark _)) (pss_one (ps_ret pe_bl)) pss_nil)
      (pss_cons (ps_expr (pe_dclear (pv 11)))
      (pss_one (ps_if (pt_cmpR op_ne (pe_callB (call_reprD hgd hr.units) (by rfl) T.mRepr (by decide +kernel) (pa_cons (pe_call GI hr rfl T.gI kI bI .nil pass0 (pa_cons (pv 10) (pa_cons (pv 11) pa_nil))) pa_nil))
        (pe_callB (call_reprD hgd hr.units) (by rfl) T.mRepr (by decide +kernel) (pa_cons (pe_callTy call_tuple_of (by rfl) T.mTuple (by decide +kernel)
          (pa_cons (pe_call GP hr rfl T.gP kP bP .nil pass0 (pa_cons (pv 4) (pa_cons pe_dnewK pa_nil))) pa_nil)) pa_nil)) (nomark _)) (pss_one (ps_ret pe_bl)) pss_nil)))))))))))))))
      (pss_one (ps_ret pe_bl)), ?_⟩
    refine ⟨.ref a, rfl, a, ns.map V.int, rfl, .inl hS, 20, _, rfl, 1, _, rfl, _, rfl, ?_, ?_, for_range (fun _ σ H2 => ∃ x1 x2 x3 x4 x5 x6 x7 x8 x9 x10 x11 x12 x13 x14, σ = [some (.ref a), x1, x2, x3, x4, x5, x6, x7, x8, x9, x10, x11, x12, x13, x14] ∧ Same H H2)
      ⟨none, none, none, none, none, none, none, none, none, none, none, none, none, none, rfl, Same.refl H⟩ ?_ ?_⟩
    · split <;> omega
    · split <;> split <;> omega
    · rintro i σ H2 hi ⟨x1, x2, x3, x4, x5, x6, x7, x8, x9, x10, x11, x12, x13, x14, rfl, s2⟩
      have hi20 : i < 20 := by
        revert hi
        split <;> split <;> omega
      -- hand = ..
      refine ⟨.ref a, rfl, _, rfl, a, ns, (0 : Int) + i, rfl, s2.seq hS, by omega, by omega, fun p H3 np s3 h3 => ?_⟩
      -- terms, sayings, places = ..
      refine ⟨.ref p, rfl, p, 0, rfl, h3, by decide, fun lt t3 t4 t5 H4 o3 o4 o5 nlt elt h4 k4 => ?_⟩
      refine ⟨Nat.zero_le _, fun ls nls dp ndp => ⟨_, _, _, rfl, ?_⟩⟩
      obtain ⟨t, ht6, T0⟩ : ∃ t : List Str, t.length = 6 ∧ Turn H2 (upd (upd H4 ls (.lst [])) dp (.dK [])) p lt ls dp 2 t [] [] [] [] := by
        refine ⟨["", "out", "#out", t3, t4, t5], rfl, ?_⟩
        have p4 : H4 p ≠ none := by obtain ⟨_, _, _, e, _⟩ := h4; rw [e]; exact fun z => by cases z
        have s4 : Same H2 H4 := KeepBut.toSame k4 np s3
        have s5 : Same H4 (upd (upd H4 ls (.lst [])) dp (.dK [])) := (same_upd nls).trans (same_upd ndp)
        have ndp4 : H4 dp = none := (same_upd nls).free ndp
        have nls3 : H3 ls = none := KeepBut.fresh k4 p4 nls
        have lsdp : ls ≠ dp := ne_of_none upd_same ndp
        refine ⟨s4.trans s5, np, s3.free nlt, s3.free nls3, s4.free ndp4, h4.same s5, s5 _ _ elt, by rw [upd_ne lsdp, upd_same]; rfl, .nil, upd_same, .nil, (ne_of_none elt nls).symm, ?_, ?_, (fun r hr => by cases hr), (fun r hr => by cases hr), List.nodup_nil⟩
        · obtain ⟨_, _, _, e, _⟩ := h4
          exact ne_of_none e ndp4
        · intro x hx
          simp only [List.mem_cons, List.not_mem_nil, or_false] at hx
          rcases hx with h | h | h | h | h | h <;> subst h
          · exact okS_nil
          · exact ⟨by decide +kernel, by decide +kernel⟩
          · exact ⟨by decide +kernel, by decide +kernel⟩
          · exact o3
          · exact o4
          · exact o5
      generalize upd (upd H4 ls (.lst [])) dp (.dK []) = H6 at T0
      -- for j: sayings
      refine ⟨.ref p, rfl, p, 9, 2, rfl, T0.hand, by decide, by decide, by decide, fun c9 H7 c0 c1 h7 k7 => ⟨_, rfl, by omega, by omega, for_range (fun j σ H => ∃ x6 x7 x8 x9 x10 x11 x12 x13 x14 ts rs,
        σ = [some (.ref a), some (.int (0 + i)), some (.ref p), some (.ref lt), some (.ref ls), some (.ref dp), x6, x7, x8, x9, x10, x11, x12, x13, x14] ∧ Turn H2 H p lt ls dp (3 + 4 * j) t ts rs [] [] ∧ rs.length = j)
        ⟨_, _, _, _, _, _, _, _, _, [], [], rfl, T0.from_ k7 (h7.mono (by omega)), rfl⟩ ?_ ?_⟩⟩
      · rintro j σ H8 hj ⟨y6, y7, y8, y9, y10, y11, y12, y13, y14, ts, rs, rfl, T1, lr⟩
        refine ⟨.ref p, rfl, p, 6, 3 + 4 * j, rfl, T1.hand, by omega, by decide, by decide, fun v H9 v0 v1 h9 k9 => ?_⟩
        have T2 := T1.from_ k9 h9
        refine ⟨_, rfl, _, _, rfl, rfl, .ref p, rfl, p, 5, _, rfl, T2.hand, by omega, by decide, by decide, fun u H10 u0 u1 h10 k10 => ⟨_, _, rfl, rfl, _, _, rfl, rfl, by show (0 : Int) < 6; decide, ?_⟩⟩
        have T3 := T2.from_ k10 h10
        have w0 : 0 ≤ (v + 1 + u) % 6 := Int.emod_nonneg _ (by decide)
        have w1 : (v + 1 + u) % 6 < 6 := Int.emod_lt_of_pos _ (by decide)
        obtain ⟨x, ex, gx⟩ := T3.term ht6 v0 v1
        obtain ⟨y, ey, gy⟩ := T3.term ht6 w0 w1
        refine ⟨.ref ls, rfl, .inl ⟨rfl, _, SqL.of T3.say⟩, .ref lt, rfl, _, rfl, lt, _, _, _, rfl, rfl, SqL.of T3.terms, ex, .ref lt, rfl, _, rfl, lt, _, _, _, rfl, rfl, SqL.of T3.terms, ey, ?_⟩
        refine ⟨.ref p, rfl, p, _, rfl, T3.hand, by omega, fun n H11 n0 n1 h11 k11 => ?_⟩
        have T4 := T3.from_ k11 h11
        refine ⟨by show 3 ≤ sizeLine; decide, fun c nc => ?_⟩
        have T5 := T4.stay (same_upd (o := .tup [.str x, .str y, .int n]) nc)
        have lts : ts.length = rs.length := Paired.length T5.tri
        refine ⟨ls, _, _, rfl, rfl, T5.say, small1000 (by rw [List.length_map]; omega), ?_⟩
        have T6 := T5.app (c := c) (r := (x, y, n)) upd_same ⟨gx, gy, num_good n0 n1⟩
        simp only [List.map_append, List.map_cons, List.map_nil] at T6
        refine ⟨_, _, _, _, _, _, _, _, _, ts ++ [c], rs ++ [(x, y, n)], rfl, T6.mono (by omega), ?_⟩
        rw [List.length_append, lr]; rfl
      · rintro σ H8 ⟨y6, y7, y8, y9, y10, y11, y12, y13, y14, ts, rs, rfl, T1, lr⟩
        have lr9 : rs.length ≤ 9 := by omega
        replace T1 := T1.mono (m' := 40) (by omega)
        clear lr
        -- for j: places
        refine ⟨.ref p, rfl, p, 7, _, rfl, T1.hand, by decide, by decide, by decide, fun c7 H9 d0 d1 h9 k9 => ⟨_, rfl, by omega, by omega, for_range (fun j σ H => ∃ x6 x7 x8 x9 x10 x11 x12 x13 x14 kvs pl,
          σ = [some (.ref a), some (.int (0 + i)), some (.ref p), some (.ref lt), some (.ref ls), some (.ref dp), x6, x7, x8, x9, x10, x11, x12, x13, x14] ∧ Turn H2 H p lt ls dp (41 + 4 * j) t ts rs kvs pl ∧ pl.length ≤ j ∧ kvs.length ≤ j)
          ⟨_, _, _, _, _, _, _, _, _, [], [], rfl, (T1.from_ k9 h9).mono (by omega), Nat.zero_le _, Nat.zero_le _⟩ ?_ ?_⟩⟩
        · rintro j σ H10 hj ⟨z6, z7, z8, z9, z10, z11, z12, z13, z14, kvs, pl, rfl, T2, lp, lk⟩
          refine ⟨.ref lt, rfl, .ref p, rfl, p, 5, _, rfl, T2.hand, by omega, by decide, by decide, fun v H11 v0 v1 h11 k11 => ?_⟩
          have T3 := T2.from_ k11 h11
          obtain ⟨x, ex, gx⟩ := T3.term ht6 (i := 1 + v) (by omega) (by omega)
          refine ⟨_, _, rfl, rfl, lt, _, _, _, rfl, rfl, SqL.of T3.terms, ex, ?_⟩
          refine ⟨.ref lt, rfl, .ref p, rfl, p, 6, _, rfl, T3.hand, by omega, by decide, by decide, fun u H12 u0 u1 h12 k12 => ?_⟩
          have T4 := T3.from_ k12 h12
          obtain ⟨y, ey, gy⟩ := T4.term ht6 u0 u1
          refine ⟨lt, _, _, _, rfl, rfl, SqL.of T4.terms, ey, .ref p, rfl, p, _, rfl, T4.hand, by omega, fun n H13 n0 n1 h13 k13 => ?_⟩
          have T5 := T4.from_ k13 h13
          refine ⟨by show 2 ≤ sizeLine; decide, fun c nc => ?_⟩
          have T6 := T5.stay (same_upd (o := .tup [.str y, .int n]) nc)
          refine ⟨.ref dp, rfl, .str x, rfl, dp, _, rfl, DPut.k (k := .inr x) T6.pls (small1000 (by omega)), ?_⟩
          have T7 := T6.put (c := c) (x := x) (e := (y, n)) upd_same ⟨gy, num_good n0 n1⟩
          refine ⟨_, _, _, _, _, _, _, _, _, _, _, rfl, T7.mono (by omega), ?_, ?_⟩
          · have := plPut_len pl x (y, n); omega
          · have h1 : (putK kvs (.inr x) (.ref c)).length = (plPut pl x (y, n)).length := Paired.length T7.pa
            have h2 := plPut_len pl x (y, n)
            omega
        · rintro σ H10 ⟨z6, z7, z8, z9, z10, z11, z12, z13, z14, kvs, pl, rfl, T2, lp, lk⟩
          replace T2 := T2.mono (m' := 80) (by omega)
          -- if ..
          refine ⟨fun σ H => ∃ x6 x7 x8 x9 x10 x11 x12 x13 x14 m ts rs, σ = [some (.ref a), some (.int (0 + i)), some (.ref p), some (.ref lt), some (.ref ls), some (.ref dp), x6, x7, x8, x9, x10, x11, x12, x13, x14] ∧
            Turn H2 H p lt ls dp m t ts rs kvs pl ∧ rs.length ≤ 10, ?_, ?_⟩
          · refine ⟨.ref p, rfl, p, 4, _, rfl, T2.hand, by decide, by decide, by decide, fun v H11 v0 v1 h11 k11 => ⟨rfl, _, rfl, ite2 (fun _ => ?_) (fun _ => ?_)⟩⟩
            · have T3 := T2.from_ k11 h11
              refine ⟨.ref ls, rfl, .inl ⟨rfl, _, SqL.of T3.say⟩, _, rfl, .ref p, rfl, p, 9, _, rfl, T3.hand, by decide, by decide, by decide, fun n H12 n0 n1 h12 k12 => ⟨_, _, rfl, rfl, ?_⟩⟩
              have T4 := T3.from_ k12 h12
              refine ⟨by show 3 ≤ sizeLine; decide, fun c nc => ?_⟩
              have T5 := T4.stay (same_upd (o := .tup [.str "", .str "", .int (-1 - n)]) nc)
              have lts : ts.length = rs.length := Paired.length T5.tri
              refine ⟨ls, _, _, rfl, rfl, T5.say, small1000 (by rw [List.length_map]; omega), ?_⟩
              have T6 := T5.app (c := c) (r := ("", "", -1 - n)) upd_same ⟨okS_nil, okS_nil, by show (-1 - n).natAbs < _; omega⟩
              simp only [List.map_append, List.map_cons, List.map_nil] at T6
              exact ⟨_, _, _, _, _, _, _, _, _, _, _, _, rfl, T6, by rw [List.length_append]; show rs.length + 1 ≤ 10; omega⟩
            · exact ⟨_, _, _, _, _, _, _, _, _, _, _, _, rfl, T2.from_ k11 h11, by omega⟩
          · clear T2 T1 ts rs lr9 z6 z7 z8 z9 z10 z11 z12 z13 z14 y6 y7 y8 y9 y10 y11 y12 y13 y14
            rintro σ H11 ⟨x6, x7, x8, x9, x10, x11, x12, x13, x14, m, ts, rs, rfl, T3, lr⟩
            -- handed, others = ..
            have lts : ts.length = rs.length := Paired.length T3.tri
            refine ⟨.ref ls, rfl, ls, _, rfl, .inl ⟨SqL.of T3.say, fun hd nhd => ?_⟩⟩
            refine ⟨.ref dp, rfl, dp, kvs, rfl, .inl (same_upd nhd _ _ T3.pls), fun ot not => ?_⟩
            refine ⟨by show 2 ≤ sizeLine; decide, fun tt ntt => ?_⟩
            refine ⟨tt, [.ref hd, .ref ot], rfl, SqT.of upd_same, rfl, _, _, rfl, _, _, rfl, rfl, ?_⟩
            have s14 := ((same_upd nhd).trans (same_upd not)).trans (same_upd (o := .tup [.ref hd, .ref ot]) ntt)
            have eh := same_upd (o := .tup [.ref hd, .ref ot]) ntt _ _ (same_upd (o := .dK kvs) not _ _ (upd_same (H := H11) (a := hd) (o := .tup (ts.map V.ref))))
            have eo := same_upd (o := .tup [.ref hd, .ref ot]) ntt _ _ (upd_same (H := upd H11 hd (.tup (ts.map V.ref))) (a := ot) (o := .dK kvs))
            have fo : H11 ot = none := (same_upd nhd).free not
            have odp : ot ≠ dp := (ne_of_none T3.pls fo).symm
            have T4 := T3.stay s14
            have n0 : H2 ot = none := T3.same.free fo
            generalize upd (upd (upd H11 hd (.tup (ts.map V.ref))) ot (.dK kvs)) tt (.tup [.ref hd, .ref ot]) = H14 at s14 eh eo T4
            clear T3 s14 nhd not ntt fo
            have R := rows_ok (put_good T4.gp T4.gr) (Nat.le_trans (putS_len pl rs) (by omega))
            -- due = ..
            refine ⟨.ref ls, rfl, .ref dp, rfl, ls, dp, ts, rs, kvs, pl, rfl, T4.say, T4.tri, by omega, T4.pls, T4.pa, fun l H15 nl s15 ⟨us, el, tl⟩ => ?_⟩
            refine ⟨l, _, rfl, .inl ⟨SqL.of el, fun tp ntp => ?_⟩⟩
            refine ⟨tp, rowsD (putS pl rs), rfl, .tup (SqT.of upd_same) (TriAt.dp (tl.same (same_upd ntp))), R.sh, R.nd, R.dp, R.ln, ?_⟩
            have s16 : Same H14 (upd H15 tp (.tup (us.map V.ref))) := s15.trans (same_upd ntp)
            replace T4 := T4.stay s16
            replace eh := s16 _ _ eh
            replace eo := s16 _ _ eo
            generalize upd H15 tp (.tup (us.map V.ref)) = H16 at s16 T4 eh eo
            clear s16 s15 nl el tl ntp
            -- found = ..
            refine ⟨2, rfl, by decide, by decide, fun Dl nDl => lc_range (lo := 0) (n := 2) (fun i H => Same H16 H ∧ H Dl = some (.lst (List.replicate i (.str (rowsD (putS pl rs)).shown)))) ⟨same_upd nDl, upd_same⟩ ?_ ?_⟩
            · rintro g H17 hg ⟨s17, e17⟩
              refine ⟨rfl, ?_⟩
              refine ⟨.ref hd, rfl, .ref ot, rfl, hd, ot, ts, rs, kvs, pl, rfl, s17 _ _ eh, T4.tri.same s17, by omega, s17 _ _ eo, T4.pa.same s17, fun x us H18 s18 ex tx => ?_⟩
              refine ⟨x, rowsD (putS pl rs), rfl, .tup (SqT.of ex) tx.dp, R.sh, R.nd, R.dp, R.ln, ?_⟩
              refine ⟨_, s18 _ _ e17, small1000 (by rw [List.length_replicate]; omega), same_own nDl (s17.trans s18), ?_⟩
              rw [upd_same, List.replicate_succ']
            · rintro H17 ⟨s17, e17⟩
              replace T4 := T4.stay s17
              replace eh := s17 _ _ eh
              replace eo := s17 _ _ eo
              clear nDl
              -- if found != .. or ..
              have R0 : RowsOk (rowsD rs) := rows_ok (fun r hr => ⟨(T4.gr r hr).1, (T4.gr r hr).2.1, Nat.lt_of_lt_of_le (T4.gr r hr).2.2 (by decide)⟩) (by omega)
              refine ⟨.ref Dl, rfl, _, rfl, by show 1 ≤ sizeLine; decide, fun l1 nl1 => ⟨l1, 2, _, rfl, rfl, upd_same, by decide, by decide, by show 1 * 2 ≤ sizeLine; decide, fun l2 nl2 => ?_⟩⟩
              have s19 := (same_upd (o := .lst [.str (rowsD (putS pl rs)).shown]) nl1).trans (same_upd (o := .lst (List.replicate (2 : Int).toNat [V.str (rowsD (putS pl rs)).shown]).flatten) nl2)
              refine ⟨Dl, l2, _, rfl, rfl, SqL.of (s19 _ _ e17), SqL.of upd_same, fun v hv => ?_, _, rfl, iteF ?_⟩
              · rw [List.eq_of_mem_replicate hv]; rfl
              replace T4 := T4.stay s19
              replace eh := s19 _ _ eh
              replace eo := s19 _ _ eo
              replace s17 := s17.trans s19
              generalize upd (upd H17 l1 (.lst [.str (rowsD (putS pl rs)).shown])) l2 (.lst (List.replicate (2 : Int).toNat [V.str (rowsD (putS pl rs)).shown]).flatten) = H19 at T4 eh eo s17
              clear s19 nl1 nl2 e17
              refine ⟨.ref hd, rfl, .ref ls, rfl, ls, _, rfl, .inl ⟨SqL.of T4.say, fun t2 nt2 => ?_⟩⟩
              have s20 := same_upd (o := .tup (ts.map V.ref)) nt2
              refine ⟨rowsD rs, rowsD rs, .tup (SqT.of (s20 _ _ eh)) (TriAt.dp (T4.tri.same s20)), .tup (SqT.of upd_same) (TriAt.dp (T4.tri.same s20)), R0.sp, R0.sp, false, ?_, iteF ?_⟩
              · rw [PySem.SeqAt.eqv_refl _ R0.lay]; rfl
              replace T4 := T4.stay s20
              replace eh := s20 _ _ eh
              replace eo := s20 _ _ eo
              replace s17 := s17.trans s20
              generalize upd H19 t2 (.tup (ts.map V.ref)) = H20 at T4 eh eo s17
              clear s20 nt2
              obtain ⟨kn, kr⟩ := T4.pa.keys T4.nk
              refine ⟨.ref ot, rfl, .ref dp, rfl, ot, dp, kvs, rfl, rfl, eo, T4.pls, kn, kr, _, rfl, iteF ?_⟩
              -- if repr(put_in(handed[::-1], ..
              have R2 : RowsOk (rowsD (putS pl rs.reverse)) := rows_ok (put_good T4.gp (fun r hr => T4.gr r (List.mem_reverse.mp hr))) (Nat.le_trans (putS_len pl rs.reverse) (by rw [List.length_reverse]; omega))
              refine ⟨.ref hd, rfl, hd, _, rfl, SqT.of eh, fun h2 nh2 => ?_⟩
              have s21 := same_upd (o := .tup (ts.map V.ref).reverse) nh2
              refine ⟨.ref ot, rfl, h2, ot, ts.reverse, rs.reverse, kvs, pl, rfl, by rw [upd_same, List.map_reverse], Paired.rev (T4.tri.same s21), by rw [List.length_reverse]; omega, s21 _ _ eo, T4.pa.same s21, fun x us H22 s22 ex tx => ?_⟩
              refine ⟨x, rowsD (putS pl rs.reverse), rfl, .tup (SqT.of ex) tx.dp, R2.sh, R2.nd, R2.dp, R2.ln, ?_⟩
              have sa := s21.trans s22
              refine ⟨.ref ls, rfl, ls, _, rfl, SqL.of (sa _ _ T4.say), fun l3 nl3 => ?_⟩
              have sb := sa.trans (same_upd (o := .lst (ts.map V.ref).reverse) nl3)
              refine ⟨.ref dp, rfl, l3, dp, ts.reverse, rs.reverse, kvs, pl, rfl, by rw [upd_same, List.map_reverse], Paired.rev (T4.tri.same sb), by rw [List.length_reverse]; omega, sb _ _ T4.pls, T4.pa.same sb, fun l H23 nl s23 ⟨us2, el, tl⟩ => ?_⟩
              refine ⟨l, _, rfl, .inl ⟨SqL.of el, fun tp ntp => ?_⟩⟩
              refine ⟨tp, rowsD (putS pl rs.reverse), rfl, .tup (SqT.of upd_same) (TriAt.dp (tl.same (same_upd ntp))), R2.sh, R2.nd, R2.dp, R2.ln, ?_⟩
              refine ⟨rfl, false, same_ne _, iteF ?_⟩
              have s24 : Same H20 (upd H23 tp (.tup (us2.map V.ref))) := (sb.trans s23).trans (same_upd ntp)
              replace T4 := T4.stay s24
              replace eh := s24 _ _ eh
              replace eo := s24 _ _ eo
              replace s17 := s17.trans s24
              generalize upd H23 tp (.tup (us2.map V.ref)) = H24 at T4 eh eo s17
              clear s24 ntp el tl s23 sb nl3 sa ex tx s22 s21 nh2 nl
              -- if repr(put_in(handed, others)) != due
              refine ⟨.ref hd, rfl, .ref ot, rfl, hd, ot, ts, rs, kvs, pl, rfl, eh, T4.tri, by omega, eo, T4.pa, fun x us H25 s25 ex tx => ?_⟩
              refine ⟨x, rowsD (putS pl rs), rfl, .tup (SqT.of ex) tx.dp, R.sh, R.nd, R.dp, R.ln, ?_⟩
              refine ⟨_, rfl, rfl, false, same_ne _, iteF ?_⟩
              replace T4 := T4.stay s25
              replace eh := s25 _ _ eh
              replace eo := s25 _ _ eo
              clear s25 ex tx s17
              -- others.clear()
              refine ⟨.ref ot, rfl, .inr (.inr (.inl ⟨rfl, .inl ⟨kvs, eo⟩⟩)), ot, kvs, rfl, rfl, eo, ?_⟩
              have nk : ∀ {b : Addr} {o : HO}, H25 b = some o → (∀ kv, o ≠ .dK kv) → (upd H25 ot (.dK [])) b = some o := fun {b o} e d => by rw [upd_ne (ne_of e eo (d _))]; exact e
              have sT : Same H2 (upd H25 ot (.dK [])) := same_own n0 T4.same
              have tri : TriAt (upd H25 ot (.dK [])) ts rs := Paired.mapP T4.tri fun _ _ e => nk e (fun _ z => by cases z)
              have eh2 := nk eh (fun _ z => by cases z)
              have say2 := nk T4.say (fun _ z => by cases z)
              have eo2 : (upd H25 ot (.dK [])) ot = some (.dK []) := upd_same
              generalize upd H25 ot (.dK []) = H26 at sT tri eh2 say2 eo2
              -- if repr(put_in(handed, others)) != repr(tuple(_law_put(sayings, {})))
              have R3 : RowsOk (rowsD (putS [] rs)) := rows_ok (put_good (fun q hq => by cases hq) T4.gr) (Nat.le_trans (putS_len [] rs) (by omega))
              refine ⟨.ref hd, rfl, .ref ot, rfl, hd, ot, ts, rs, [], [], rfl, eh2, tri, by omega, eo2, .nil, fun x us H27 s27 ex tx => ?_⟩
              refine ⟨x, rowsD (putS [] rs), rfl, .tup (SqT.of ex) tx.dp, R3.sh, R3.nd, R3.dp, R3.ln, ?_⟩
              refine ⟨.ref ls, rfl, fun d nd => ?_⟩
              have s28 := s27.trans (same_upd (o := .dK []) nd)
              refine ⟨ls, d, ts, rs, [], [], rfl, s28 _ _ say2, tri.same s28, by omega, upd_same, .nil, fun l H29 nl s29 ⟨us2, el, tl⟩ => ?_⟩
              refine ⟨l, _, rfl, .inl ⟨SqL.of el, fun tp ntp => ?_⟩⟩
              refine ⟨tp, rowsD (putS [] rs), rfl, .tup (SqT.of upd_same) (TriAt.dp (tl.same (same_upd ntp))), R3.sh, R3.nd, R3.dp, R3.ln, ?_⟩
              refine ⟨rfl, false, same_ne _, iteF ?_⟩
              exact ⟨_, _, _, _, _, _, _, _, _, _, _, _, _, _, rfl, s2.trans (((sT.trans s28).trans s29).trans (same_upd ntp))⟩
    · rintro σ H2 ⟨x1, x2, x3, x4, x5, x6, x7, x8, x9, x10, x11, x12, x13, x14, rfl, s2⟩
      exact q H2
end
end K30
set_option Elab.async false
set_option linter.all false
set_option maxRecDepth 100000
set_option maxHeartbeats 4000000
/-! the program's own defs: sayings_of, put_sayings, put_in -/
namespace K30
open PySem PySem.Spec PyProof.Rows L2 Sg
abbrev sSof : Stmt := topS 1
abbrev sPuts : Stmt := topS 2
abbrev sIn : Stmt := topS 4
theorem scSof : FnScope ["one", "other", "most", "number"] ["one", "other", "most"] (defScope sSof) := ⟨rfl, rfl, rfl, by decide +kernel, rfl, by decide +kernel, by decide +kernel⟩
theorem scPuts : FnScope ["sayings", "places", "told", "one", "other", "most"] ["sayings", "places"] (defScope sPuts) := ⟨rfl, rfl, rfl, by decide +kernel, rfl, by decide +kernel, by decide +kernel⟩
theorem scIn : FnScope ["sayings", "places"] ["sayings", "places"] (defScope sIn) := ⟨rfl, rfl, rfl, by decide +kernel, rfl, by decide +kernel, by decide +kernel⟩
section
variable {P : Program} {w : World} {K : PySem.W.Frag} {mg : Str → Option Value} {base : Heap}
theorem op_neS_ans {ta tb : TE} {σ : L2.St} {H : Hp} {a b : Str} (ha : Val ta σ H (.str a)) (hb : Val tb σ H (.str b)) : Ans (tTest (tOp rNe ta tb)) σ H (!decide (a = b)) := fun Q q => by
  refine ha _ (hb _ ⟨rfl, _, rfl, ?_⟩)
  have e : decide (V.str a = V.str b) = decide (a = b) := by
    by_cases h : a = b
    · subst h; simp
    · rw [decide_eq_false h, decide_eq_false (fun z => h (V.str.inj z))]
  rw [e]
  exact q
theorem ok_sof {f : Addr} {fd : FuncData} (F : Fun K "sayings_of" "sayings_of" sSof f fd) : FnOk P w K mg base CX0 1 f fd ["one", "other", "most"] spSays := by
  refine F.ok scSof (fun vs H Q E h => ?_) (fun cdv A outer s H vs Q E hr h => ?_)
  · obtain ⟨p, q, a, b, x, y, n, rfl, _⟩ := h
    rfl
  · obtain ⟨p, q, a, b, x, y, n, rfl, hp, hq, k⟩ := h
    refine ⟨_, pss_cons (ps_set (i := 3) scSof.nd rfl (.inl rfl) (pe_op op_sub (pe_op op_add (pv 2) (pe_ix ix_tup (pv 1) pe_int (fun _ _ => rfl))) (pe_ix ix_tup (pv 0) pe_int (fun _ _ => rfl))))
      (pss_cons (ps_if (pt_cmpR op_ne (pe_ix ix_tup (pv 0) pe_int (fun _ _ => rfl)) (pe_ix ix_tup (pv 1) pe_int (fun _ _ => rfl)) (nomark _))
        (pss_one (ps_ret (pe_lst (pa_cons (pe_tup (pa_cons (pe_ix ix_tup (pv 0) pe_int (fun _ _ => rfl)) (pa_cons (pe_ix ix_tup (pv 1) pe_int (fun _ _ => rfl)) (pa_cons (pv 3) pa_nil)))) pa_nil)))) pss_nil)
      (pss_one (ps_ret (pe_ifExp (pt_cmpR op_ge (pv 3) pe_int (nomark _)) (pe_lst pa_nil) (pe_lst (pa_cons (pe_tup (pa_cons pe_str (pa_cons pe_str (pa_cons (pv 3) pa_nil)))) pa_nil)))))), ?_⟩
    refine go_set (v := .int (n + y - x)) (val_op0 (val_op0 (val_var rfl) (val_ixT (val_var rfl) val_c (SqT.of hq) rfl)) (val_ixT (val_var rfl) val_c (SqT.of hp) rfl)) ?_
    have one : ∀ (u v : Str) (t : Addr) (H1 : Hp), H1 t = none → Same H H1 → ∀ l, (upd H1 t (.tup [.str u, .str v, .int (n + y - x)])) l = none →
        Same H (upd (upd H1 t (.tup [.str u, .str v, .int (n + y - x)])) l (.lst [.ref t])) ∧ RowsAt (upd (upd H1 t (.tup [.str u, .str v, .int (n + y - x)])) l (.lst [.ref t])) l [(u, v, n + y - x)] := by
      intro u v t H1 ht sm l hl
      have ne : t ≠ l := ne_of_none upd_same hl
      exact ⟨(sm.trans (same_upd ht)).trans (same_upd hl), [t], upd_same, .cons (by rw [upd_ne ne, upd_same]; rfl) .nil⟩
    refine go_when (op_neS_ans (val_ixT (val_var rfl) val_c (SqT.of hp) rfl) (val_ixT (val_var rfl) val_c (SqT.of hq) rfl)) (fun hb => ?_) (fun hb => ?_)
    · have e : ¬ a = b := by simpa using hb
      refine (val_ixT (val_var rfl) val_c (SqT.of hp) rfl) _ ?_
      refine (val_ixT (val_var rfl) val_c (SqT.of hq) rfl) _ ?_
      refine ⟨_, rfl, by show 3 ≤ sizeLine; decide, fun t ht => ⟨by show 1 ≤ sizeLine; decide, fun l hl => ?_⟩⟩
      obtain ⟨s1, r1⟩ := one a b t H ht (fun _ _ z => z) l hl
      refine k l _ (Same.free (same_upd ht) hl) s1 ?_
      unfold says
      rw [if_neg e]
      exact r1
    · have e : a = b := by simpa using hb
      refine (ans_int (p := fun i j => decide (j ≤ i)) (val_var rfl) val_c) _ ?_
      by_cases h0 : n + y - x < 0
      · rw [if_neg (by rw [decide_eq_false (show ¬ (0 ≤ n + y - x) by omega)]; decide)]
        refine ⟨_, rfl, by show 3 ≤ sizeLine; decide, fun t ht => ⟨by show 1 ≤ sizeLine; decide, fun l hl => ?_⟩⟩
        obtain ⟨s1, r1⟩ := one "" "" t H ht (fun _ _ z => z) l hl
        refine k l _ (Same.free (same_upd ht) hl) s1 ?_
        unfold says
        rw [if_pos e, if_pos h0]
        exact r1
      · rw [if_pos (decide_eq_true (show 0 ≤ n + y - x by omega))]
        refine ⟨Nat.zero_le _, fun l hl => k l _ hl (same_upd hl) ⟨[], upd_same, ?_⟩⟩
        unfold says
        rw [if_pos e, if_neg h0]
        exact .nil
def spPuts : Sp := fun vs H Q _ => ∃ (a d : Addr) (ts : List Addr) (rs : List Say) (kvs : List (Key × V)) (pl : List Say), vs = [.ref a, .ref d] ∧ H a = some (.tup (ts.map V.ref)) ∧ TriAt H ts rs ∧
  rs.length ≤ 1000 ∧ H d = some (.dK kvs) ∧ PlAt H kvs pl ∧ ∀ (l : Addr) (H' : Hp), H l = none → Same H H' → RowsAt H' l (putS pl rs) → Q (.ref l) H'
theorem ok_puts {f fS : Addr} {fd fdS : FuncData} (F : Fun K "put_sayings" "put_sayings" sPuts f fd) (FS : Fun K "sayings_of" "sayings_of" sSof fS fdS) (bS : Binds K fdS ["one", "other", "most"] [])
    (gS : mg "sayings_of" = some (.ref fS)) : FnOk P w K mg base CX0 2 f fd ["sayings", "places"] spPuts := by
  have GS : FnOk P w K mg base CX0 1 fS fdS ["one", "other", "most"] spSays := ok_sof FS
  refine F.ok scPuts (fun vs H Q E h => ?_) (fun cdv A outer s H vs Q E hr h => ?_)
  · obtain ⟨a, d, ts, rs, kvs, pl, rfl, _⟩ := h
    rfl
  · obtain ⟨a, d, ts, rs, kvs, pl, rfl, ha, ht, hl, hd, hp, k⟩ := h
    have hu := hu_of hr
    refine ⟨_, pss_cons (ps_set (i := 2) scPuts.nd rfl (.inl rfl) (pe_lst pa_nil))
      (pss_cons (ps_for PassesOwn.never rfl (pi_tup (pv 0)) (pg_tup rfl (pgs_cons (pg_name (i := 3) scPuts.nd rfl (.inl rfl)) (pgs_cons (pg_name (i := 4) scPuts.nd rfl (.inl rfl)) (pgs_cons (pg_name (i := 5) scPuts.nd rfl (.inl rfl)) pgs_nil))))
        (pss_one (ps_expr (pe_bm PySem.F.plainAttrs_list PySem.F.slot_list_extend PySem.F.type_list_extend mt_extend (pv 2) (pa_cons (pe_call GS hr rfl gS FS.kp bS .nil pass0
          (pa_cons (pe_dget2 hu (pv 1) (pv 3) (pe_tup (pa_cons (pv 3) (pa_cons pe_int pa_nil))) (by constructor <;> rfl)) (pa_cons (pe_dget2 hu (pv 1) (pv 4) (pe_tup (pa_cons (pv 4) (pa_cons pe_int pa_nil))) (by constructor <;> rfl)) (pa_cons (pv 5) pa_nil)))) pa_nil)))))
      (pss_one (ps_ret (pv 2)))), ?_⟩
    refine ⟨Nat.zero_le _, fun l0 n0 => ?_⟩
    have lenTs : ts.length = rs.length := Paired.length ht
    refine ⟨_, rfl, a, rfl, ⟨_, SqT.of (same_upd n0 _ _ ha)⟩, for_tup (xs := ts.map V.ref)
      (fun i σ H2 => ∃ x3 x4 x5, σ = [some (.ref a), some (.ref d), some (.ref l0), x3, x4, x5] ∧ Same H H2 ∧ RowsAt H2 l0 (putS pl (rs.take i)))
      ⟨none, none, none, rfl, same_upd n0, [], upd_same, .nil⟩ (fun i σ H2 _ ⟨_, _, _, _, s2, _⟩ => SqT.of (s2 _ _ ha)) ?_ ?_⟩
    · rintro i y σ H2 hi ⟨x3, x4, x5, rfl, s2, l1, e1, t1⟩
      rw [List.getElem?_map] at hi
      obtain ⟨t, ti, rfl⟩ : ∃ t, ts[i]? = some t ∧ V.ref t = y := by
        cases q : ts[i]? with
        | none => rw [q] at hi; cases hi
        | some t => rw [q] at hi; exact ⟨t, rfl, Option.some.inj hi⟩
      obtain ⟨r, ri, rt⟩ := Paired.at ht ti
      have rt2 := s2 _ _ rt
      refine ⟨t, [.str r.1, .str r.2.1, .int r.2.2], rfl, SqT.of rt2, rfl, _, _, rfl, _, _, rfl, _, _, rfl, rfl, ?_⟩
      refine ⟨.ref l0, rfl, .inl ⟨rfl, _, SqL.of e1⟩, ?_⟩
      refine cons_go ?_
      dsimp only
      refine call_cons ?_
      refine get_place (x := r.1) (s2 _ _ hd) (hp.same s2) ?_ ?_ ?_ fun p1 H3 s3 g1 => ?_
      iterate 3 exact val_var rfl
      refine cons_go ?_
      refine get_place (x := r.2.1) (s3 _ _ (s2 _ _ hd)) ((hp.same s2).same s3) ?_ ?_ ?_ fun p2 H4 s4 g2 => ?_
      iterate 3 exact val_var rfl
      refine ⟨.int r.2.2, rfl, p1, p2, _, _, _, _, _, rfl, s4 _ _ g1, g2, fun b H5 nb s5 ⟨ls, eb, tb⟩ => ?_⟩
      have e1' := s5 _ _ (s4 _ _ (s3 _ _ e1))
      have ll : l1.length ≤ 1000 := by
        have z1 : l1.length = (putS pl (rs.take i)).length := Paired.length t1
        have z2 := putS_len pl (rs.take i)
        have z3 : (rs.take i).length ≤ rs.length := by rw [List.length_take]; exact Nat.min_le_right _ _
        omega
      have lb : ls.length ≤ 1 := by
        have z1 : ls.length = (says (at1 pl r.1) (at1 pl r.2.1) r.2.2).length := Paired.length tb
        have z2 := says_len (at1 pl r.1) (at1 pl r.2.1) r.2.2
        omega
      refine ⟨l0, b, _, _, rfl, rfl, e1', eb, ?_, ?_⟩
      · rw [List.length_map, List.length_map, sizeLine_eq]; omega
      · have sAll : Same H H5 := ((s2.trans s3).trans s4).trans s5
        have so : ∀ {o : HO}, Same H (upd H5 l0 o) := same_own n0 sAll
        have nl : ∀ {c : Addr} {r : Say}, H5 c = some (triV r) → c ≠ l0 := fun {c r} e => ne_of e e1' (fun z => by cases z)
        have up : ∀ {as : List Addr} {q : List Say}, TriAt H5 as q → TriAt (upd H5 l0 (.lst (l1.map V.ref ++ ls.map V.ref))) as q := fun h => Paired.mapP h fun c r e => by rw [upd_ne (nl e)]; exact e
        refine ⟨_, _, _, rfl, so, l1 ++ ls, by rw [upd_same, List.map_append], ?_⟩
        rw [List.take_add_one, ri]
        show TriAt _ (l1 ++ ls) (putS pl (rs.take i ++ [r]))
        rw [putS_snoc]
        exact Paired.app (up (TriAt.same (TriAt.same (TriAt.same t1 s3) s4) s5)) (up tb)
    · rintro σ H2 ⟨x3, x4, x5, rfl, s2, hR⟩
      rw [List.length_map, lenTs, List.take_length] at hR
      exact ⟨.ref l0, rfl, k l0 H2 n0 s2 hR⟩
theorem ok_in {f fP fS : Addr} {fd fdP fdS : FuncData} (F : Fun K "put_in" "put_in" sIn f fd) (FP : Fun K "put_sayings" "put_sayings" sPuts fP fdP) (bP : Binds K fdP ["sayings", "places"] [])
    (gP : mg "put_sayings" = some (.ref fP)) (FS : Fun K "sayings_of" "sayings_of" sSof fS fdS) (bS : Binds K fdS ["one", "other", "most"] [])
    (gS : mg "sayings_of" = some (.ref fS)) (mT : mg "tuple" = none) : FnOk P w K mg base CX0 3 f fd ["sayings", "places"] spIn := by
  have GP : FnOk P w K mg base CX0 2 fP fdP ["sayings", "places"] spPuts := ok_puts FP FS bS gS
  refine F.ok scIn (fun vs H Q E h => ?_) (fun cdv A outer s H vs Q E hr h => ?_)
  · obtain ⟨a, d, ts, rs, kvs, pl, rfl, _⟩ := h
    rfl
  · obtain ⟨a, d, ts, rs, kvs, pl, rfl, ha, ht, hl, hd, hp, k⟩ := h
    refine ⟨_, pss_one (ps_ret (pe_callTy call_tuple_of (by rfl) mT (by decide +kernel) (pa_cons (pe_call GP hr rfl gP FP.kp bP .nil pass0 (pa_cons (pv 0) (pa_cons (pv 1) pa_nil))) pa_nil))), ?_⟩
    refine ⟨.ref a, rfl, .ref d, rfl, a, d, ts, rs, kvs, pl, rfl, ha, ht, hl, hd, hp, fun l H1 nl s1 ⟨us, e1, t1⟩ => ?_⟩
    refine ⟨l, _, rfl, .inl ⟨SqL.of e1, fun q nq => ?_⟩⟩
    exact k q us _ (s1.trans (same_upd nq)) upd_same (TriAt.same t1 (same_upd nq))
end
end K30
set_option Elab.async false
set_option linter.all false
set_option maxRecDepth 100000
set_option maxHeartbeats 4000000
namespace K30
open PySem PySem.Spec PyProof.Rows L2 Sg
/-! ### what the top has left -/
theorem all_mk {w : World} {K : PySem.W.Frag} {h : Heap} {mg : Str → Option Value} {fa : Addr} (X : K.In h) (G : h.Ns mainGlobals mg) (hfa : mg "law" = some (.ref fa))
    {f_mixed : Addr} {od_mixed an_mixed : Option Addr} {sl_mixed : Array (Option Value)} {oc_mixed kV_mixed dc_mixed pm_mixed cd_mixed ct_mixed : Value}
    (a_mixed : PySem.W.nsIn K mainGlobals "_law_mixed" = some (some (.ref f_mixed)))
    (l_mixed : K.lookup f_mixed = some ⟨oc_mixed, od_mixed, .func (PySem.W.fnOf "_law_mixed" "_law_mixed" (defArgs sMixed) (defBody sMixed) (defScope sMixed) .none kV_mixed dc_mixed pm_mixed an_mixed cd_mixed ct_mixed), sl_mixed⟩)
    (c_mixed : PySem.W.codeIn K cd_mixed "_law_mixed" = true) (k_mixed : PySem.W.keepIn K (.ref f_mixed) = true)
    {f_hand : Addr} {od_hand an_hand : Option Addr} {sl_hand : Array (Option Value)} {oc_hand kV_hand dc_hand pm_hand cd_hand ct_hand : Value}
    (a_hand : PySem.W.nsIn K mainGlobals "_law_hand" = some (some (.ref f_hand)))
    (l_hand : K.lookup f_hand = some ⟨oc_hand, od_hand, .func (PySem.W.fnOf "_law_hand" "_law_hand" (defArgs sHand) (defBody sHand) (defScope sHand) .none kV_hand dc_hand pm_hand an_hand cd_hand ct_hand), sl_hand⟩)
    (c_hand : PySem.W.codeIn K cd_hand "_law_hand" = true) (k_hand : PySem.W.keepIn K (.ref f_hand) = true)
    {f_from : Addr} {od_from an_from : Option Addr} {sl_from : Array (Option Value)} {oc_from kV_from dc_from pm_from cd_from ct_from : Value}
    (a_from : PySem.W.nsIn K mainGlobals "_law_from" = some (some (.ref f_from)))
    (l_from : K.lookup f_from = some ⟨oc_from, od_from, .func (PySem.W.fnOf "_law_from" "_law_from" (defArgs sFrom) (defBody sFrom) (defScope sFrom) .none kV_from dc_from pm_from an_from cd_from ct_from), sl_from⟩)
    (c_from : PySem.W.codeIn K cd_from "_law_from" = true) (k_from : PySem.W.keepIn K (.ref f_from) = true)
    {f_says : Addr} {od_says an_says : Option Addr} {sl_says : Array (Option Value)} {oc_says kV_says dc_says pm_says cd_says ct_says : Value}
    (a_says : PySem.W.nsIn K mainGlobals "_law_says" = some (some (.ref f_says)))
    (l_says : K.lookup f_says = some ⟨oc_says, od_says, .func (PySem.W.fnOf "_law_says" "_law_says" (defArgs sSays) (defBody sSays) (defScope sSays) .none kV_says dc_says pm_says an_says cd_says ct_says), sl_says⟩)
    (c_says : PySem.W.codeIn K cd_says "_law_says" = true) (k_says : PySem.W.keepIn K (.ref f_says) = true)
    {f_put : Addr} {od_put an_put : Option Addr} {sl_put : Array (Option Value)} {oc_put kV_put dc_put pm_put cd_put ct_put : Value}
    (a_put : PySem.W.nsIn K mainGlobals "_law_put" = some (some (.ref f_put)))
    (l_put : K.lookup f_put = some ⟨oc_put, od_put, .func (PySem.W.fnOf "_law_put" "_law_put" (defArgs sPut) (defBody sPut) (defScope sPut) .none kV_put dc_put pm_put an_put cd_put ct_put), sl_put⟩)
    (c_put : PySem.W.codeIn K cd_put "_law_put" = true) (k_put : PySem.W.keepIn K (.ref f_put) = true)
    {f_number : Addr} {od_number an_number : Option Addr} {sl_number : Array (Option Value)} {oc_number kV_number dc_number pm_number cd_number ct_number : Value}
    (a_number : PySem.W.nsIn K mainGlobals "_law_number" = some (some (.ref f_number)))
    (l_number : K.lookup f_number = some ⟨oc_number, od_number, .func (PySem.W.fnOf "_law_number" "_law_number" (defArgs sNumber) (defBody sNumber) (defScope sNumber) .none kV_number dc_number pm_number an_number cd_number ct_number), sl_number⟩)
    (c_number : PySem.W.codeIn K cd_number "_law_number" = true) (k_number : PySem.W.keepIn K (.ref f_number) = true)
    {f_terms : Addr} {od_terms an_terms : Option Addr} {sl_terms : Array (Option Value)} {oc_terms kV_terms dc_terms pm_terms cd_terms ct_terms : Value}
    (a_terms : PySem.W.nsIn K mainGlobals "_law_terms" = some (some (.ref f_terms)))
    (l_terms : K.lookup f_terms = some ⟨oc_terms, od_terms, .func (PySem.W.fnOf "_law_terms" "_law_terms" (defArgs sTerms) (defBody sTerms) (defScope sTerms) .none kV_terms dc_terms pm_terms an_terms cd_terms ct_terms), sl_terms⟩)
    (c_terms : PySem.W.codeIn K cd_terms "_law_terms" = true) (k_terms : PySem.W.keepIn K (.ref f_terms) = true)
    {f_sof : Addr} {od_sof an_sof : Option Addr} {sl_sof : Array (Option Value)} {oc_sof kV_sof dc_sof pm_sof cd_sof ct_sof : Value}
    (a_sof : PySem.W.nsIn K mainGlobals "sayings_of" = some (some (.ref f_sof)))
    (l_sof : K.lookup f_sof = some ⟨oc_sof, od_sof, .func (PySem.W.fnOf "sayings_of" "sayings_of" (defArgs sSof) (defBody sSof) (defScope sSof) .none kV_sof dc_sof pm_sof an_sof cd_sof ct_sof), sl_sof⟩)
    (c_sof : PySem.W.codeIn K cd_sof "sayings_of" = true) (k_sof : PySem.W.keepIn K (.ref f_sof) = true)
    {f_puts : Addr} {od_puts an_puts : Option Addr} {sl_puts : Array (Option Value)} {oc_puts kV_puts dc_puts pm_puts cd_puts ct_puts : Value}
    (a_puts : PySem.W.nsIn K mainGlobals "put_sayings" = some (some (.ref f_puts)))
    (l_puts : K.lookup f_puts = some ⟨oc_puts, od_puts, .func (PySem.W.fnOf "put_sayings" "put_sayings" (defArgs sPuts) (defBody sPuts) (defScope sPuts) .none kV_puts dc_puts pm_puts an_puts cd_puts ct_puts), sl_puts⟩)
    (c_puts : PySem.W.codeIn K cd_puts "put_sayings" = true) (k_puts : PySem.W.keepIn K (.ref f_puts) = true)
    {f_in : Addr} {od_in an_in : Option Addr} {sl_in : Array (Option Value)} {oc_in kV_in dc_in pm_in cd_in ct_in : Value}
    (a_in : PySem.W.nsIn K mainGlobals "put_in" = some (some (.ref f_in)))
    (l_in : K.lookup f_in = some ⟨oc_in, od_in, .func (PySem.W.fnOf "put_in" "put_in" (defArgs sIn) (defBody sIn) (defScope sIn) .none kV_in dc_in pm_in an_in cd_in ct_in), sl_in⟩)
    (c_in : PySem.W.codeIn K cd_in "put_in" = true) (k_in : PySem.W.keepIn K (.ref f_in) = true)
    {f_law : Addr} {od_law an_law : Option Addr} {sl_law : Array (Option Value)} {oc_law kV_law dc_law pm_law cd_law ct_law : Value}
    (a_law : PySem.W.nsIn K mainGlobals "law" = some (some (.ref f_law)))
    (l_law : K.lookup f_law = some ⟨oc_law, od_law, .func (PySem.W.fnOf "law" "law" (defArgs sLaw) (defBody sLaw) (defScope sLaw) .none kV_law dc_law pm_law an_law cd_law ct_law), sl_law⟩)
    (c_law : PySem.W.codeIn K cd_law "law" = true) (k_law : PySem.W.keepIn K (.ref f_law) = true)
    (z_len : PySem.W.nsIn K mainGlobals "len" = some none)
    (z_range : PySem.W.nsIn K mainGlobals "range" = some none)
    (z_max : PySem.W.nsIn K mainGlobals "max" = some none)
    (z_min : PySem.W.nsIn K mainGlobals "min" = some none)
    (z_repr : PySem.W.nsIn K mainGlobals "repr" = some none)
    (z_tuple : PySem.W.nsIn K mainGlobals "tuple" = some none)
    (z_dict : PySem.W.nsIn K mainGlobals "dict" = some none)
    : ∃ fd : FuncData, (∀ (s : Shared) (v : Value), BindsTo s fd ⟨[v], []⟩ [("script", v)]) ∧
      ∀ base : Heap, K.In base → base.Ns mainGlobals mg → FnG PySem.Challenge.rw_strikehall_k30_sayings_put.prog w K mg base CX0 4 fa fd ["script"] (spLaw K) := by
  have e := hfa.symm.trans (PySem.W.mg_of X G a_law)
  cases e
  have F_mixed := fun_mk (st := sMixed) l_mixed c_mixed k_mixed
  have g_mixed := PySem.W.mg_of X G a_mixed
  have b_mixed := F_mixed.binds (ps := ["cell", "k"]) fun _ _ _ _ _ _ us hl => match us, hl with | [_, _], _ => rfl
  have F_hand := fun_mk (st := sHand) l_hand c_hand k_hand
  have g_hand := PySem.W.mg_of X G a_hand
  have b_hand := F_hand.binds (ps := ["script", "k"]) fun _ _ _ _ _ _ us hl => match us, hl with | [_, _], _ => rfl
  have F_from := fun_mk (st := sFrom) l_from c_from k_from
  have g_from := PySem.W.mg_of X G a_from
  have b_from := F_from.binds (ps := ["hand", "many"]) fun _ _ _ _ _ _ us hl => match us, hl with | [_, _], _ => rfl
  have F_says := fun_mk (st := sSays) l_says c_says k_says
  have g_says := PySem.W.mg_of X G a_says
  have b_says := F_says.binds (ps := ["one", "other", "number"]) fun _ _ _ _ _ _ us hl => match us, hl with | [_, _, _], _ => rfl
  have F_put := fun_mk (st := sPut) l_put c_put k_put
  have g_put := PySem.W.mg_of X G a_put
  have b_put := F_put.binds (ps := ["sayings", "places"]) fun _ _ _ _ _ _ us hl => match us, hl with | [_, _], _ => rfl
  have F_number := fun_mk (st := sNumber) l_number c_number k_number
  have g_number := PySem.W.mg_of X G a_number
  have b_number := F_number.binds (ps := ["hand"]) fun _ _ _ _ _ _ us hl => match us, hl with | [_], _ => rfl
  have F_terms := fun_mk (st := sTerms) l_terms c_terms k_terms
  have g_terms := PySem.W.mg_of X G a_terms
  have b_terms := F_terms.binds (ps := ["hand"]) fun _ _ _ _ _ _ us hl => match us, hl with | [_], _ => rfl
  have F_sof := fun_mk (st := sSof) l_sof c_sof k_sof
  have g_sof := PySem.W.mg_of X G a_sof
  have b_sof := F_sof.binds (ps := ["one", "other", "most"]) fun _ _ _ _ _ _ us hl => match us, hl with | [_, _, _], _ => rfl
  have F_puts := fun_mk (st := sPuts) l_puts c_puts k_puts
  have g_puts := PySem.W.mg_of X G a_puts
  have b_puts := F_puts.binds (ps := ["sayings", "places"]) fun _ _ _ _ _ _ us hl => match us, hl with | [_, _], _ => rfl
  have F_in := fun_mk (st := sIn) l_in c_in k_in
  have g_in := PySem.W.mg_of X G a_in
  have b_in := F_in.binds (ps := ["sayings", "places"]) fun _ _ _ _ _ _ us hl => match us, hl with | [_, _], _ => rfl
  have F_law := fun_mk (st := sLaw) l_law c_law k_law
  have g_law := PySem.W.mg_of X G a_law
  have n_len := PySem.W.mg_none_of X G z_len
  have n_range := PySem.W.mg_none_of X G z_range
  have n_max := PySem.W.mg_none_of X G z_max
  have n_min := PySem.W.mg_none_of X G z_min
  have n_repr := PySem.W.mg_none_of X G z_repr
  have n_tuple := PySem.W.mg_none_of X G z_tuple
  have n_dict := PySem.W.mg_none_of X G z_dict
  refine ⟨PySem.W.fnOf "law" "law" (defArgs sLaw) (defBody sLaw) (defScope sLaw) .none kV_law dc_law pm_law an_law cd_law ct_law, fun s v => .of_eq rfl, fun base _ _ => ?_⟩
  have GF := ok_from (P := PySem.Challenge.rw_strikehall_k30_sayings_put.prog) (w := w) (base := base) F_from F_mixed b_mixed g_mixed
  exact ok_law F_law ⟨g_hand, g_from, g_number, g_terms, g_put, g_in, n_len, n_range, n_max, n_min, n_repr, n_tuple, n_dict⟩
    F_hand.kp b_hand ((ok_hand F_hand F_mixed b_mixed g_mixed n_len).mono (by decide)) F_from.kp b_from (GF.mono (by decide)) F_number.kp b_number (ok_number F_number F_from b_from g_from GF)
    F_terms.kp b_terms (ok_terms F_terms F_from b_from g_from GF) F_put.kp b_put ((ok_put F_put F_says b_says g_says).mono (by decide)) F_in.kp b_in (ok_in F_in F_puts b_puts g_puts F_sof b_sof g_sof n_tuple)
end K30
open PySem PySem.W PyProof.Rows
set_option maxRecDepth 100000 in
set_option maxHeartbeats 0 in
theorem PySem.Challenge.cw_strikehall_k30_sayings_put_holds : PySem.Challenge.rw_strikehall_k30_sayings_put.Holds := by
  w_on; o_law; k_head; (case hw => w_witness2)
  k_fill
  refine Sg.walkG (l := PySem.Challenge.rw_strikehall_k30_sayings_put) (n := 63) (k := 4) (x := "script") (sp := fun K => K30.spLaw K) rfl (by decide) rfl ⟨rfl, by decide, by decide⟩ (fun w h Y => PySem.W.kIn_of Y) ?F (fun K H a ns hl _ hS => ⟨a, ns, rfl, hS, hl, fun _ => rfl⟩)
  case F =>
    intro w mg fa h KX G hmg
    refine' K30.all_mk KX G hmg ?a_mixed ?l_mixed ?c_mixed ?k_mixed ?a_hand ?l_hand ?c_hand ?k_hand ?a_from ?l_from ?c_from ?k_from ?a_says ?l_says ?c_says ?k_says ?a_put ?l_put ?c_put ?k_put ?a_number ?l_number ?c_number ?k_number ?a_terms ?l_terms ?c_terms ?k_terms ?a_sof ?l_sof ?c_sof ?k_sof ?a_puts ?l_puts ?c_puts ?k_puts ?a_in ?l_in ?c_in ?k_in ?a_law ?l_law ?c_law ?k_law ?z_len ?z_range ?z_max ?z_min ?z_repr ?z_tuple ?z_dict
    (case a_mixed => k_is)
    (case l_mixed => k_is)
    (case c_mixed => k_is)
    (case k_mixed => k_is)
    (case a_hand => k_is)
    (case l_hand => k_is)
    (case c_hand => k_is)
    (case k_hand => k_is)
    (case a_from => k_is)
    (case l_from => k_is)
    (case c_from => k_is)
    (case k_from => k_is)
    (case a_says => k_is)
    (case l_says => k_is)
    (case c_says => k_is)
    (case k_says => k_is)
    (case a_put => k_is)
    (case l_put => k_is)
    (case c_put => k_is)
    (case k_put => k_is)
    (case a_number => k_is)
    (case l_number => k_is)
    (case c_number => k_is)
    (case k_number => k_is)
    (case a_terms => k_is)
    (case l_terms => k_is)
    (case c_terms => k_is)
    (case k_terms => k_is)
    (case a_sof => k_is)
    (case l_sof => k_is)
    (case c_sof => k_is)
    (case k_sof => k_is)
    (case a_puts => k_is)
    (case l_puts => k_is)
    (case c_puts => k_is)
    (case k_puts => k_is)
    (case a_in => k_is)
    (case l_in => k_is)
    (case c_in => k_is)
    (case k_in => k_is)
    (case a_law => k_is)
    (case l_law => k_is)
    (case c_law => k_is)
    (case k_law => k_is)
    (case z_len => k_is)
    (case z_range => k_is)
    (case z_max => k_is)
    (case z_min => k_is)
    (case z_repr => k_is)
    (case z_tuple => k_is)
    (case z_dict => k_is)
