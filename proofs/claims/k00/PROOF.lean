import PyProof.Rows.All
import Wide.All
import OpenK.AllK
import Wide.FinOn
import PyProof.EqAt
import PyProof.EqKinds
import PyProof.TupleCall
import HandS.ForMost
import KE.SortCalls
import HandS.TupSets
import HandS.SetKeys
import HandS.TupAny
import HandS.Evl
import HandS.Walk
import HandS.Deep
import HandS.Wide
import HandS.Style
import HandS.IsInst
import KE.SortKeyHeap
import HandS.Comp
import HandS.HotCalls
import HandS.ExcIs
import HandS.ExcInit
import HandS.ExcField
import HandS.ExcOwn
import HandS.ExcCtx
import KE.KExcIs
import PyProof.ReprLen
import KE.KIntText
import PySem.Challenge.RW_stopsfirst_k00_errors_and_what_they_keep
set_option Elab.async false
set_option linter.all false
set_option maxRecDepth 100000
set_option maxHeartbeats 2000000
namespace XG
open PySem PySem.Spec PyProof.Rows L2

mutual
theorem Dp.nodict {K : PySem.W.Frag} {H : Hp} : ∀ (d : PyData) (v : V), Dp K H v d → d.hasDict = false
  | .none, _, _ => by simp only [PyData.hasDict]
  | .bool _, _, _ => by simp only [PyData.hasDict]
  | .int _, _, _ => by simp only [PyData.hasDict]
  | .str _, _, _ => by simp only [PyData.hasDict]
  | .list ds, _, h => by
    cases h with
    | lst _ ha =>
      simp only [PyData.hasDict]
      exact Dp.nodictAll ds _ ha
  | .tuple ds, _, h => by
    cases h with
    | tup _ ha =>
      simp only [PyData.hasDict]
      exact Dp.nodictAll ds _ ha
  | .dict _, _, h => by cases h
theorem Dp.nodictAll {K : PySem.W.Frag} {H : Hp} : ∀ (ds : List PyData) (vs : List V), DpAll K H vs ds → PyData.hasDictAll ds = false
  | [], _, _ => by simp only [PyData.hasDictAll]
  | d :: ds, _, h => by
    cases h with
    | cons h1 h2 => simp only [PyData.hasDictAll, Dp.nodict d _ h1, Dp.nodictAll ds _ h2, Bool.or_self]
end

/-- repr of data: needs the guards of the place -/
theorem repr_data {X : Cx} (hg : X.A.guards = some []) (hu : X.A.units + 64 < cLine) :
    CallR X (.builtin "repr") (fun vs H Q => ∃ (v : V) (d : PyData), vs = [v] ∧ Dp X.K H v d ∧ PyData.showable d = true ∧ d.depth ≤ 30 ∧ d.shown.length ≤ sizeLine ∧ Q (.str d.shown) H) := by
  intro pins s σ H xs us Q I r h
  obtain ⟨v, d, rfl, hd, hs, hdep, hz, q⟩ := h
  obtain ⟨u, rfl, ru⟩ := vals1 r
  have nd := Dp.nodict d v hd
  obtain ⟨as, rd⟩ := Dp.reads I d v u hd ru
  have fin : ∀ (h' : Heap) (t : Tok) (tk : Nat), (∀ b o, s.heap.get? b = some o → h'.get? b = some o) → EP X pins σ Q (.str d.shown t) { s with heap := h', toks := tk } :=
    fun h' t tk k => ⟨.str _, H, I.kept k, ⟨t, rfl⟩, q⟩
  have ref : ∀ a, u = .ref a → wpAny (model X.prog X.w) X.A (call (.builtin "repr") [u]) (EP X pins σ Q) X.xe s := fun a e => by
    subst e
    exact repr_of_reads' rd hs (PyData.noDict_hsm nd) hg (by omega) (fun _ _ e => e) (fun h' t tk k => fin h' t tk k) hz
  cases rd with
  | none => exact PySem.P.repr_of_none (by simpa only [PyData.shown] using fin s.heap _ _ fun _ _ e => e)
  | bool b => exact PySem.P.repr_of_bool (by simpa only [PyData.shown] using fin s.heap _ _ fun _ _ e => e)
  | int i t => exact PySem.P.repr_of_int (by simpa [PyData.showable] using hs) (by simpa only [PyData.shown] using fin s.heap _ _ fun _ _ e => e)
  | str x t => exact PySem.P.repr_of_str (by simpa only [PyData.shown] using fin s.heap _ _ fun _ _ e => e) (by simpa only [PyData.shown] using hz)
  | list _ _ _ _ => exact ref _ rfl
  | tuple _ _ _ _ => exact ref _ rfl
  | dict _ _ _ _ _ => exact absurd nd (by simp only [PyData.hasDict]; decide)

/-! ### defs, called where the guards are known to be none -/
section
variable {P : Program} {w : World} {K : PySem.W.Frag} {mg : Str → Option Value} {base : Heap} {CX : CXT} {k : Nat} {f : Addr} {fd : FuncData} {ps : List Str} {sp : Sp}
structure FnG (P : Program) (w : World) (K : PySem.W.Frag) (mg : Str → Option Value) (base : Heap) (CX : CXT) (k : Nat) (f : Addr) (fd : FuncData) (ps : List Str) (sp : Sp) : Prop where
  many : ∀ vs H Q E, sp vs H Q E → vs.length = ps.length
  go : ∀ (A : Around) (outer : List Env) (s : Shared) (H : Hp) (args : Args) (us : List Value) (vs : List V) (Q : VK) (E : XK),
    A.guards = some [] → Room k A → Env0 P w K mg base A outer s H → BindsTo s fd args (ps.zip us) → Vals vs us → sp vs H Q E →
      codeAny (model P w) A (.call (.ref f) args) (CR CX outer P w H s Q E) s
theorem FnG.up {j : Nat} (F : FnG P w K mg base CX j f fd ps sp) (h : j ≤ k) : FnG P w K mg base CX k f fd ps sp :=
  ⟨F.many, fun A outer s H args us vs Q E g r => F.go A outer s H args us vs Q E g (r.mono h)⟩

theorem fn_g {name qual : Str} {params : Arguments} {body : List Stmt} {scope : Scope} {dV kV doc pm cdv ct oc : Value} {an od : Option Addr} {osl : Array (Option Value)} {N : List Str}
    (lk : K.lookup f = some ⟨oc, od, .func (PySem.W.fnOf name qual params body scope dV kV doc pm an cdv ct), osl⟩)
    (hcd : PySem.W.codeIn K cdv qual = true) (S : FnScope N ps scope) (many : ∀ vs H Q E, sp vs H Q E → vs.length = ps.length)
    (inner : ∀ (A : Around) (outer : List Env) (s : Shared) (H : Hp) (vs : List V) (Q : VK) (E : XK), A.guards = some [] →
      Room k (A.deeper (envOfC qual scope s.heap.objs.size f cdv)) → sp vs H Q E →
      ∃ t, PSs (cxOf CX P w K mg base N qual scope f cdv A outer s H E) body t ∧ t { nx := fun _ H' => Q .non H', rt := Q } (start N vs) H) :
    FnG P w K mg base CX (k + 1) f (PySem.W.fnOf name qual params body scope dV kV doc pm an cdv ct) ps sp := by
  refine ⟨many, fun A outer s H args us vs Q E g hr e0 hb r want => ?_⟩
  have n := many _ _ _ _ want
  have inK : K.In s.heap := e0.mod.kin.keeps fun b o e => (e0.bs b o e).1
  have free : s.heap.NoLimit := e0.mod.nolimit.keeps fun b o e => (e0.bs b o e).1
  have kinds : ∀ y ∈ ps.zip us, scope.names.lookup y.1 = some .local ∨ (scope.names.lookup y.1 = some .cell ∧ ((cellsFrom (s.heap.objs.size + 1) scope.names []).lookup y.1).isSome = true) := by
    rintro ⟨y, v⟩ hy
    cases S.par y (List.of_mem_zip hy).1 with
    | inl q => exact .inl q
    | inr q => exact .inr ⟨q, PySem.W.cellsFrom_some _ _ _ (.inl q)⟩
  refine codeAny_call_function hr.depth (inK _ _ lk) rfl S.co S.gen rfl (PySem.W.codeRec_of inK hcd) (hb _ _ _ _ ?_)
  refine wpAny_newFunctionEnv_cells S.kind kinds fun env he s1 x => ?_
  subst he
  refine ⟨free.keeps x.toInCall.keep, codeAny_func ?_⟩
  obtain ⟨t, ht, hq⟩ := inner A outer s H vs Q E g (hr.deeper _) want
  have I := inv_start (E := E) (CX := CX) (cd := cdv) (f := f) (outer := outer) S hr.hd e0 n r x
  refine wpAny_mono (ht.run [] s1 (start N vs) H _ I hq) (fun fl s' hs => ?_) fun e s' hs => hs
  cases fl with
  | ret u =>
    obtain ⟨v, σ', H', J, rv, q⟩ := hs
    exact ⟨v, H', J.os, J.bare, J.base, J.hok, rv, q⟩
  | next =>
    obtain ⟨σ', H', J, q⟩ := hs
    exact ⟨.non, H', J.os, J.bare, J.base, J.hok, rfl, q⟩
  | brk => exact hs.elim fun _ h => h.elim fun _ h => h.2.elim
  | cont => exact hs.elim fun _ h => h.elim fun _ h => h.2.elim

/-- a def of the text that lets no exception out -/
theorem fun_g {x qual : Str} {st : Stmt} {N : List Str} (F : Fun K x qual st f fd) (S : FnScope N ps (defScope st)) (many : ∀ vs H Q E, sp vs H Q E → vs.length = ps.length)
    (inner : ∀ (cdv : Value) (A : Around) (outer : List Env) (s : Shared) (H : Hp) (vs : List V) (Q : VK) (E : XK), A.guards = some [] →
      Room k (A.deeper (envOfC qual (defScope st) s.heap.objs.size f cdv)) → sp vs H Q E →
      ∃ t, PSs (cxOf CX0 P w K mg base N qual (defScope st) f cdv A outer s H E).nox (defBody st) t ∧ t { nx := fun _ H' => Q .non H', rt := Q } (start N vs) H) :
    FnG P w K mg base CX0 (k + 1) f fd ps sp := by
  obtain ⟨oc, od, kV, doc, pm, an, cdv, ct, osl, rfl, lk, hcd⟩ := F.ex
  exact fn_g lk hcd S many fun A outer s H vs Q E g hr want => (inner cdv A outer s H vs Q E g hr want).imp fun t h => ⟨h.1.nox, h.2⟩
end

section
variable {X : Cx} {CX : CXT} {k : Nat} {f : Addr} {fd : FuncData} {ps : List Str} {sp : Sp} {E : XK} {x : Str} {p pos : Pos} {e : Expr} {es : List Expr} {t : TA}
theorem run_g {pins : List (Addr × Obj)} {σ : L2.St} {H : Hp} {s : Shared} {Q : VK} {us : List Value} {vs : List V} (F : FnG X.prog X.w X.K X.mg X.base CX k f fd ps sp) (hg : X.A.guards = some []) (hr : Room k X.A)
    (hb : Binds X.K fd ps []) (hx : Passes CX X E) (I : Inv X pins σ H s) (r : Vals vs us) (h : sp vs H Q E) : wpAny (model X.prog X.w) X.A (call (.ref f) us) (EP X pins σ Q) X.xe s := by
  have hl : us.length = ps.length := r.length.symm.trans (F.many _ _ _ _ h)
  have b := hb s us I.kIn (by rw [List.append_nil]; exact hl)
  rw [List.append_nil] at b
  refine wpAny_call (codeAny_mono (F.go X.A X.stack s H ⟨us, []⟩ us vs Q E hg hr I.env0 b r h) fun res s' q => ?_)
  match res, q with
  | .error e, q => exact hx pins σ H s e s' I q
  | .ok (.ret u), q => exact I.after q
theorem pe_g (F : FnG X.prog X.w X.K X.mg X.base CX k f fd ps sp) (hg : X.A.guards = some []) (hr : Room k X.A) (gl : Gl X x) (hm : X.mg x = some (.ref f)) (hk : PySem.W.keepIn X.K (.ref f) = true) (hb : Binds X.K fd ps [])
    (hx : Passes CX X E) (ha : PA X (e :: es) t) (hdb : (x == ("__debug__" : Str)) = false := by decide) (he : starEach (e :: es) X.env = (false, eval e X.env) :: starEach es X.env := by rfl)
    (hpl : (backTo pos (starEach es X.env)).any (·.1) = false := by rfl) : PE X (.Call (.Name x p) (e :: es) [] pos) (tCall sp [] E t) := by
  refine ⟨fun pins s σ H Q I h => wpAny_Call_Name_kw (ld_glob I gl hm ?_ hdb)⟩
  refine PySem.W.callWith_K (h₀ := X.base) I.ok.mod.kin hk (thn (ha.run pos pins s σ H _ I h) fun us s1 q => ?_) he hpl
  obtain ⟨vs, H1, I1, r, q⟩ := q
  exact ⟨I1.kIn, run_g F hg hr hb hx I1 r (by rw [List.append_nil] at q; exact q)⟩
end

/-! ### the end: the law's def is called by nobody who is told of -/
theorem callG {P : Program} {w : World} {K : PySem.W.Frag} {mg mb : Str → Option Value} {k : Nat} {fa a : Addr} {fd : FuncData} {x : Str} {sp : Sp} {s : Shared} {vs : List Value} {ns : List Int}
    (inK : K.In s.heap) (nm : s.heap.Ns mainGlobals mg) (nb : s.heap.Ns builtinsNs mb) (boot : ∀ x : Str, x ≠ "__name__" → mb x = bootBuiltins x) (free : s.heap.NoLimit) (gens : s.gens = #[])
    (ha : s.heap.get? a = some { cls := .type "list", data := .seq vs.toArray }) (hi : IntsAre vs ns) (hl : ns.length ≤ sizeLine) (room : Room k callerA)
    (F : ∀ base : Heap, K.In base → base.Ns mainGlobals mg → FnG P w K mg base CX0 k fa fd [x] sp) (bind : ∀ (s : Shared) (u : Value), BindsTo s fd ⟨[u], []⟩ [(x, u)])
    (ask : ∀ H : Hp, Only H → SqL K H a (ns.map V.int) → sp [.ref a] H (fun v _ => v = .bl true) fun _ _ _ => False) :
    codeAny (model P w) callerA (.call (.ref fa) ⟨[.ref a], []⟩) (fun r s' => r = .ok (.ret (.bool true)) ∧ OldK s.heap s'.heap ∧ s'.os = s.os ∧ AllBare s'.gens) s := by
  have rv := vals_ints hi
  have main : ∀ H : Hp, Only H → SqL K H a (ns.map V.int) → HOk P w H s.heap → (∀ b u, H b = some u → b = a ∧ K.lookup a = none) →
      codeAny (model P w) callerA (.call (.ref fa) ⟨[.ref a], []⟩) (fun r s' => r = .ok (.ret (.bool true)) ∧ OldK s.heap s'.heap ∧ s'.os = s.os ∧ AllBare s'.gens) s := by
    intro H only sq ok at_
    have plain : ∀ {b : Addr} {o : Obj} {es : Array DictEntry} {ep : Nat}, s.heap.get? b = some o → o.data = .dict es ep → H b = none := by
      intro b o es ep e d
      cases q : H b with
      | none => rfl
      | some u =>
        rw [(at_ b u q).1, ha] at e
        cases e
        cases d
    have ns_ : ∀ {b : Addr} {m : Str → Option Value}, s.heap.Ns b m → (hidT s.heap H).Ns b m := fun {b m} ⟨o, es, ep, e, d, r⟩ => ⟨o, es, ep, hidT_get e (plain e d), d, r⟩
    have kb : K.In (hidT s.heap H) := by
      intro b o e
      refine hidT_get (inK b o e) ?_
      cases q : H b with
      | none => rfl
      | some u =>
        obtain ⟨e1, e2⟩ := at_ b u q
        rw [e1, e2] at e
        cases e
    have lim : (hidT s.heap H).NoLimit := free.imp fun mc h => ⟨ns_ h.1, h.2⟩
    have m : Mod K mg (hidT s.heap H) := { kin := kb, glob := ns_ nm, blt := ⟨mb, ns_ nb, boot⟩, nolimit := lim }
    have none_in : ∀ b : Addr, b ∉ frs [] := fun b hb => nomatch hb
    have e0 : Env0 P w K mg (hidT s.heap H) callerA [] s H :=
      { frames := rfl, mod := m, bs := fun b o e => of_hidT e, bsz := Nat.le_of_eq (hidT_size _ _), funs := trivial, frf := fun b hb => absurd hb (none_in b), hok := ok, bare := .of_eq gens }
    refine codeAny_mono ((F _ kb (ns_ nm)).go callerA [] s H ⟨[.ref a], []⟩ [.ref a] [.ref a] _ _ rfl room e0 (bind s (.ref a)) (.cons rfl .nil) (ask H only sq)) fun r s' h => ?_
    match r, h with
    | .error _, h => exact h.elim
    | .ok (.ret u), h =>
      obtain ⟨v, H', os, bare, un, ok', r', q⟩ := h
      subst q
      obtain rfl : u = Value.bool true := r'
      refine ⟨rfl, .of_keep fun b o e => ?_, os, bare⟩
      cases q : H b with
      | none => exact un.keep b o e q (none_in b) (fun z => nomatch z)
      | some u =>
        rcases only b with z | ⟨ob, xs, z⟩
        · rw [q] at z; cases z
        · have e1 := (ok b _ z).1
          have e2 := (ok' b _ (un.frzs b ob _ z)).1
          rw [e] at e1
          cases e1
          exact e2
  cases hk : K.lookup a with
  | some o =>
    have e := inK a o hk
    rw [ha] at e
    cases e
    exact main (fun _ => none) (fun _ => .inl rfl) (.inr ⟨_, vs.toArray, _, hk, rfl, rfl, rfl, by rw [List.size_toArray, hi.length]; exact hl, by simpa using rv⟩) (fun _ _ z => nomatch z) fun _ _ z => nomatch z
  | none =>
    have it : ∀ (b : Addr) (u : HO), (if b = a then some (HO.frz { cls := .type "list", data := .seq vs.toArray } (.lst (ns.map V.int))) else none) = some u → b = a ∧ u = .frz { cls := .type "list", data := .seq vs.toArray } (.lst (ns.map V.int)) := by
      intro b u z
      by_cases hb : b = a
      · rw [if_pos hb] at z
        exact ⟨hb, (Option.some.inj z).symm⟩
      · rw [if_neg hb] at z
        cases z
    refine main (fun b => if b = a then some (HO.frz { cls := .type "list", data := .seq vs.toArray } (.lst (ns.map V.int))) else none) (fun b => ?_) (.inl (.inr ⟨_, if_pos rfl⟩)) (fun b u z => ?_) fun b u z => ⟨(it b u z).1, hk⟩
    · by_cases hb : b = a
      · exact .inr ⟨_, _, if_pos hb⟩
      · exact .inl (if_neg hb)
    · obtain ⟨e1, e2⟩ := it b u z
      subst e1
      subst e2
      exact ⟨ha, by rw [List.length_map]; exact hl, vs, _, rv, ha⟩

theorem walkG {l : PySem.W.OpenLaw} {n k : Nat} {q : Program} {loose : List Str} {XP : (Str → Option Value) → Heap → Prop} {YP : World → Heap → Prop} {d : DefRec} {K : Params → PySem.W.Frag} {sp : World → PySem.W.Frag → Sp} {x : Str}
    (hn : l.most = some n) (hn2 : n ≤ sizeLine) (hdf : d.params.defaults = []) (room : Room k callerA) (hY : ∀ (w : World) (h : Heap), YP w h → (K w.params).In h)
    (F : ∀ (w : World) (mg : Str → Option Value) (fa : Addr) (h : Heap), (K w.params).In h → h.Ns mainGlobals mg → mg d.name = some (.ref fa) →
      ∃ fd : FuncData, (∀ (s : Shared) (u : Value), BindsTo s fd ⟨[u], []⟩ [(x, u)]) ∧
        ∀ base : Heap, (K w.params).In base → base.Ns mainGlobals mg → FnG l.prog w (K w.params) mg base CX0 k fa fd [x] (sp w (K w.params)))
    (ask : ∀ (w : World) (H : Hp) (a : Addr) (ns : List Int), ns.length ≤ n → Only H → SqL (K w.params) H a (ns.map V.int) → sp w (K w.params) [.ref a] H (fun v _ => v = .bl true) fun _ _ _ => False) :
    PySem.W.WalkO q loose XP YP l.row.toRowW d [] (fun f vs => PySem.call f vs) := by
  refine Att.attach_call hn hdf fun w s₀ s₁ mg mb fa o pm cd doc a vs ns G Y ho hd hcd hmg hobj hints hlen hg => ?_
  obtain ⟨fd, bind, hF⟩ := F w mg fa _ (hY w _ Y) G.T.g hmg
  exact callG (hY w _ Y) G.T.g G.T.b G.T.builtins G.T.nolimit hg hobj hints (Nat.le_trans hlen hn2) room hF bind fun H only sq => ask w H a ns hlen only sq
end XG

set_option maxRecDepth 100000
set_option maxHeartbeats 2000000
/-! sorted of tuples that read as alike data, the empty one among them -/
namespace XB
open PySem PySem.Calls PySem.SeqAt PySem.W PyProof.Rows
section
variable {prog : Program} {w : World} {A : Around} {E : Value → Shared → Prop} {s : Shared}

theorem tuple_lt_call {Q : Value → Shared → Prop} {l b : Addr} {xs ys : Array Value} {e r : Nat → Bool} (hl : s.heap.IsTuple l xs) (hb : s.heap.IsTuple b ys)
    (he : ∀ j (h1 : j < xs.size) (h2 : j < ys.size), EqAt A.in1 s xs[j] ys[j] (e j)) (hr : ∀ j (h1 : j < xs.size) (h2 : j < ys.size), e j = false → RcLt A.in1 s xs[j] ys[j] (r j))
    (h : Q (.bool (firstLt e r (decide (xs.size < ys.size)) (List.range (min xs.size ys.size)))) s) : wpAny (model prog w) A (call (.builtin "tuple.__lt__") [.ref l, .ref b]) Q E s := by
  obtain ⟨⟨c, dd, dt, sl⟩, ho, hc, n, hd⟩ := id hl
  obtain ⟨⟨c2, dd2, dt2, sl2⟩, ho2, hc2, n2, hd2⟩ := id hb
  simp only at hc hd hc2 hd2
  subst hc hd hc2 hd2
  exact call_meets F.slot_tuple_lt ⟨_, ho, rfl⟩ F.entry_tuple_lt (F.args_tuple_lt_2 _ _) (tuple_ltAt l b xs ys n n2 dd dd2 sl sl2 e r) ⟨ho, ho2, he, hr, h⟩

/-- two tuples, as keys of one type -/
theorem one_tuples {xs ys : List PyData} {a b : Value} {as bs : List Addr} {Q : Bool → Shared → Prop} (ra : Reads s.heap a (.tuple xs) as) (rb : Reads s.heap b (.tuple ys) bs) (hal : alikeAll xs ys = true)
    (hu : A.units + min (PyData.tuple xs).depth (PyData.tuple ys).depth < cLine) (hq : Q (dataLt (.tuple xs) (.tuple ys)) s) : wpAny (model prog w) A (oneLt' true a b) Q E s := by
  cases ra with
  | @tuple l o vs n _ as₁ h1 h2 h3 h4 =>
    cases rb with
    | @tuple l' o' vs' n' _ bs₁ k1 k2 k3 k4 =>
      have n1 : vs.size = xs.length := by simpa using SeqAt.ReadsAll.length _ _ _ h4
      have n2 : vs'.size = ys.length := by simpa using SeqAt.ReadsAll.length _ _ _ k4
      rw [dataLt_tuple, ← firstLt_toks xs ys hal, ← n1, ← n2] at hq
      rw [oneLt'_eq]
      simp only [if_true]
      refine wpAny_bind (wpAny_cRoomFor (room_here hu) ?_)
      refine wpAny_bind (wpAny_callSpecialIfBound?_slot (T := "tuple") ⟨_, h1, h2⟩ F.slot_tuple_lt (tuple_lt_call (e := pairEq xs ys) (r := fun j => dataLt (xs.getD j .none) (ys.getD j .none)) ⟨_, h1, h2, _, h3⟩ ⟨_, k1, k2, _, k3⟩ (fun j j1 j2 => ?_) (fun j j1 j2 hj => ?_) ?_))
      · have q := eqAt_alikeAll xs ys A.in1 s vs.toList vs'.toList _ _ h4 k4 hal (room_in hu) j (by simpa using j1) (by simpa using j2)
        simpa using q
      · have q := rcLt_alikeAll xs ys A.in1 s vs.toList vs'.toList _ _ h4 k4 hal (room_in hu) j (by simpa using j1) (by simpa using j2) hj
        simpa using q
      · exact wpAny_truthy_bool hq

def isEmptyT : PyData → Bool
  | .tuple [] => true
  | _ => false
def headE : List PyData → Bool
  | d :: _ => isEmptyT d
  | [] => false
theorem isEmptyT_iff {d : PyData} : isEmptyT d = true ↔ d = .tuple [] := by
  cases d with
  | tuple xs => cases xs <;> simp [isEmptyT]
  | _ => simp [isEmptyT]

/-- the first items of tuples -/
theorem firsts_of {M : Model} : ∀ {vs : List Value} {ds : List PyData} {Q : List (Option Value) → Shared → Prop}, EachIs (fun v d => ∃ as, Reads s.heap v d as) vs ds → (∀ d ∈ ds, ∃ xs, d = .tuple xs) →
    (∀ fs : List (Option Value), EachIs (fun f d => f.isSome = (!isEmptyT d)) fs ds → Q fs s) → wpAny M A (vs.mapM firstOfTuple') Q E s
  | [], [], Q, .nil, _, h => by
    rw [List.mapM_nil]
    exact wpAny_pure (h [] .nil)
  | v :: vs, d :: ds, Q, .cons ⟨as, r⟩ t, ht, h => by
    rw [List.mapM_cons]
    refine wpAny_bind ?_
    obtain ⟨xs, rfl⟩ := ht d (List.mem_cons_self ..)
    cases r with
    | @tuple a o ys n _ _ ho hc hd hr =>
      rw [kas_first_eq]
      refine wpAny_bind (Looks.here (show Looks M s.heap (typeOf (.ref a)) o.cls from (Looks.ld ho).andThen .now) ?_)
      rw [hc, if_neg (by first | decide | simp)]
      refine wpAny_bind (listItems_at ho hd (wpAny_pure ?_))
      refine wpAny_bind (firsts_of t (fun d hd => ht d (List.mem_cons_of_mem _ hd)) fun fs hf => wpAny_pure (h _ (.cons ?_ hf)))
      cases q : ys.toList with
      | nil =>
        rw [q] at hr
        cases hr
        have : ys = #[] := by
          cases ys
          simp at q
          rw [q]
        rw [this]
        rfl
      | cons f fr =>
        rw [q] at hr
        cases hr with
        | cons r1 r2 =>
          have hf : ys[0]? = some f := by rw [← Array.getElem?_toList, q]; rfl
          rw [hf]
          rfl

theorem types_tups {vs : List Value} {ds : List PyData} (e : EachIs (fun v d => ∃ as, Reads s.heap v d as) vs ds) (ht : ∀ d ∈ ds, ∃ xs, d = .tuple xs) {M : Model} : ∀ v ∈ vs, Looks M s.heap (typeOf v) (Value.type "tuple") := fun v hv => by
  obtain ⟨d, hd, as, r⟩ := e.left v hv
  obtain ⟨xs, rfl⟩ := ht d hd
  exact looks_reads r

theorem kind_mixed {vs : List Value} {ds : List PyData} {Q : SortKind → Shared → Prop} {M : Model} (e : EachIs (fun v d => ∃ as, Reads s.heap v d as) vs ds) (ht : ∀ d ∈ ds, ∃ xs, d = .tuple xs) (hm : PyData.tuple [] ∈ ds)
    (h : Q (if headE ds = true then oneType' else general') s) : wpAny M A (keyKind' vs.toArray) Q E s := by
  have hn : vs ≠ [] := fun z => by
    subst z
    cases e
    exact absurd hm (by simp)
  rw [kat_kind_eq, List.mapM_toArray, map_eq_pure_bind]
  refine wpAny_bind (wpAny_bind (firsts_of e ht fun fs hf => wpAny_pure ?_))
  have h1 : ¬ ((fs.toArray.all fun x => x.isSome) = true) := by
    intro z
    simp only [List.all_toArray, List.all_eq_true] at z
    have key : ∀ {fs : List (Option Value)} {ds : List PyData}, EachIs (fun f d => f.isSome = (!isEmptyT d)) fs ds → PyData.tuple [] ∈ ds → (∀ x ∈ fs, x.isSome = true) → False := by
      intro fs ds hf
      induction hf with
      | nil => exact fun m _ => absurd m (by simp)
      | cons p r ih =>
        intro m z
        rcases List.mem_cons.mp m with q | q
        · subst q
          have := z _ (List.mem_cons_self ..)
          rw [p] at this
          exact absurd this (by decide)
        · exact ih q fun x hx => z x (List.mem_cons_of_mem _ hx)
    exact key hf hm z
  rw [if_neg h1]
  cases e with
  | nil => exact absurd rfl hn
  | @cons v d vs' ds' r1 t =>
    cases hf with
    | @cons f _ fs' _ p q =>
      have h0 : ((f :: fs').toArray[0]?.bind id) = f := by simp
      rw [h0]
      cases hs : f.isSome with
      | true =>
        rw [if_pos rfl]
        rw [hs] at p
        refine wpAny_pure ?_
        rw [if_neg (show ¬ headE (d :: ds') = true from fun z => by
          rw [show isEmptyT d = true from z] at p
          exact absurd p (by simp))] at h
        exact h
      | false =>
        rw [if_neg (by decide)]
        rw [hs] at p
        have hd : isEmptyT d = true := by
          cases q : isEmptyT d with
          | true => rfl
          | false =>
            rw [q] at p
            exact absurd p (by decide)
        rw [if_pos (show headE (d :: ds') = true from hd)] at h
        rw [oneTypeOnly'_eq, List.mapM_toArray, map_eq_pure_bind]
        refine wpAny_bind (wpAny_bind (wpAny_bind (kas_mapM (r := Value.type "tuple") _ (fun u hu Q' hq => (types_tups (.cons r1 t) ht u hu).here hq) (wpAny_pure ?_))))
        have hall : ((List.map (fun _ => Value.type "tuple") (v :: vs')).toArray.all fun x => x == Value.type "tuple") = true := by
          simp only [List.all_toArray, List.all_map, List.all_eq_true]
          intro _ _
          rfl
        have h00 : (List.map (fun _ => Value.type "tuple") (v :: vs')).toArray[0]? = some (Value.type "tuple") := by simp
        rw [h00]
        simp only [hall, if_true]
        exact wpAny_pure (wpAny_pure h)
end

/-- tuples of alike data can be sorted -/
theorem sorts_tups {prog : Program} {w : World} {A : Around} {s : Shared} {vs : List Value} {ds : List PyData} (e : EachIs (fun v d => ∃ as, Reads s.heap v d as) vs ds) (hal : AllAlike ds) (ht : ∀ d ∈ ds, ∃ xs, d = .tuple xs) (hu : ∀ d ∈ ds, A.units + d.depth < cLine) :
    SortsAt prog w A s (dataKind s.heap ds) vs := by
  by_cases hm : PyData.tuple [] ∈ ds
  · refine ⟨fun v hv => ?_, if headE ds = true then oneType' else general', ?_, fun h2 E Q hq => kind_mixed e ht hm hq⟩
    · obtain ⟨d, hd, as, r⟩ := e.left v hv
      exact ⟨_, dataKind_some hal hd r⟩
    · intro E x y a b Q ha hb hq
      obtain ⟨d, as, hd, ra, rfl⟩ := dataKind_inv ha
      obtain ⟨d', as', hd', rb, rfl⟩ := dataKind_inv hb
      have hdd := hal d hd d' hd'
      obtain ⟨xs, rfl⟩ := ht d hd
      obtain ⟨ys, rfl⟩ := ht d' hd'
      have room : A.units + min (PyData.tuple xs).depth (PyData.tuple ys).depth < cLine := Nat.lt_of_le_of_lt (Nat.add_le_add_left (Nat.min_le_left _ _) _) (hu _ hd)
      split
      · exact one_tuples ra rb (by simpa [alike] using hdd) room hq
      · exact oneLt_alike (f := false) (fun z => absurd z (by decide)) ra rb hdd (by simp) room hq
  · refine SortsAt.data e hal (.inl fun d hd => ?_) hu
    obtain ⟨xs, rfl⟩ := ht d hd
    cases xs with
    | nil => exact absurd hd hm
    | cons x r => exact ⟨x, r, rfl⟩
end XB

set_option maxRecDepth 100000
set_option maxHeartbeats 2000000
/-! sorted(xs) of data, over the layer -/
namespace XC
open PySem PySem.Calls PySem.SeqAt PySem.W PyProof.Rows L2
open PySem.Spec

/-- the one order of data -/
def dle : PyData → PyData → Bool := sortLe (listOrd itemOrd) false keyToks
def srt (ds : List PyData) : List PyData := ds.mergeSort dle
structure Srtbl (ds : List PyData) : Prop where
  alike : AllAlike ds
  kind : (∀ d ∈ ds, ∃ xs, d = .tuple xs) ∨ ∀ d ∈ ds, d ≠ .none ∧ ∀ xs, d ≠ .tuple xs
  deep : ∀ d ∈ ds, d.depth ≤ 20
theorem dle_total : TotalLe dle := sortLe_total _ _ _
theorem srt_perm (ds : List PyData) : (srt ds).Perm ds := List.mergeSort_perm _ _
theorem srt_sorted (ds : List PyData) : (srt ds).Pairwise fun a b => dle a b = true := sort_pairwise dle_total ds

theorem each_pairs {K : PySem.W.Frag} {H : Hp} : ∀ {vs : List V} {ds : List PyData} {us : List Value}, DpAll K H vs ds → Vals vs us → EachIs (fun u (p : V × PyData) => RelV p.1 u) us (vs.zip ds)
  | _, _, _, .nil, .nil => .nil
  | _, _, _, .cons _ t, .cons r rs => .cons r (each_pairs t rs)
theorem zip_fst {K : PySem.W.Frag} {H : Hp} : ∀ {vs : List V} {ds : List PyData}, DpAll K H vs ds → (vs.zip ds).map Prod.fst = vs ∧ (vs.zip ds).map Prod.snd = ds
  | _, _, .nil => ⟨rfl, rfl⟩
  | _, _, .cons _ t => by
    obtain ⟨a, b⟩ := zip_fst t
    exact ⟨by rw [List.zip_cons_cons, List.map_cons, a], by rw [List.zip_cons_cons, List.map_cons, b]⟩
theorem dp_zip {K : PySem.W.Frag} {H : Hp} : ∀ {vs : List V} {ds : List PyData}, DpAll K H vs ds → ∀ p ∈ vs.zip ds, Dp K H p.1 p.2
  | _, _, .nil, _, h => nomatch h
  | _, _, .cons d t, p, h => by
    rcases List.mem_cons.mp h with e | h
    · rw [e]; exact d
    · exact dp_zip t p h
theorem dp_of_pairs {K : PySem.W.Frag} {H : Hp} : ∀ {ps : List (V × PyData)}, (∀ p ∈ ps, Dp K H p.1 p.2) → DpAll K H (ps.map Prod.fst) (ps.map Prod.snd)
  | [], _ => .nil
  | p :: ps, h => .cons (h p (List.mem_cons_self ..)) (dp_of_pairs fun q hq => h q (List.mem_cons_of_mem _ hq))
theorem vals_of_each : ∀ {us : List Value} {ps : List (V × PyData)}, EachIs (fun u (p : V × PyData) => RelV p.1 u) us ps → Vals (ps.map Prod.fst) us
  | _, _, .nil => .nil
  | _, _, .cons r t => .cons r (vals_of_each t)

def rSortD (K : PySem.W.Frag) : List V → Hp → VK → Prop := fun args H Q => ∃ (a : Addr) (vs : List V) (ds : List PyData), args = [.ref a] ∧ SqL K H a vs ∧ DpAll K H vs ds ∧ Srtbl ds ∧
  ∀ (ps : List (V × PyData)) (p : Addr), ps.Perm (vs.zip ds) → ps.map Prod.snd = srt ds → H p = none → Q (.ref p) (upd H p (.lst (ps.map Prod.fst)))
theorem cr_sortedD {X : Cx} (hu : X.A.units + 100 < cLine) : CallR X (.builtin "sorted") (rSortD X.K) := by
  intro pins s σ H args us Q I r h
  obtain ⟨a, vs, ds, rfl, hs, hd, S, q⟩ := h
  obtain ⟨its, rv, hl, hz⟩ := I.list hs
  obtain ⟨u, rfl, ru⟩ := vals1 r
  obtain rfl : u = Value.ref a := ru
  have reads : ∀ s' : Shared, (∀ b o, s.heap.get? b = some o → s'.heap.get? b = some o) → EachIs (fun v d => ∃ as, Reads s'.heap v d as) its ds := by
    intro s' k
    have go : ∀ {vs : List V} {ds : List PyData} {us : List Value}, DpAll X.K H vs ds → Vals vs us → EachIs (fun v d => ∃ as, Reads s'.heap v d as) us ds := by
      intro vs ds us h
      induction h using DpAll.rec (motive_1 := fun _ _ _ => True) generalizing us with
      | nil => intro r; cases r; exact .nil
      | cons d t _ ih =>
        intro r
        cases r with
        | cons r rs =>
          obtain ⟨as, rd⟩ := Dp.reads I _ _ _ d r
          exact .cons ⟨as, PyProof.Rows.Reads.keeps k rd⟩ (ih rs)
      | _ => trivial
    exact go hd rv
  have room : ∀ d ∈ ds, X.A.in1.in1.units + d.depth < cLine := fun d m => by
    have := S.deep d m
    show X.A.units + 1 + 1 + d.depth < cLine
    omega
  have len : its.length ≤ sizeLine := by rw [← rv.length]; exact hz
  have keep : ∀ b o, s.heap.get? b = some o → (sortingHeap (copyHeap s.heap its) (s.heap.objs.size + 1) its).get? b = some o := fun b o e => sorting_copy_old e
  have e2 := reads { s with heap := sortingHeap (copyHeap s.heap its) (s.heap.objs.size + 1) its } keep
  have SA : SortsAt X.prog X.w X.A.in1.in1 { s with heap := sortingHeap (copyHeap s.heap its) (s.heap.objs.size + 1) its } (dataKind (sortingHeap (copyHeap s.heap its) (s.heap.objs.size + 1) its) ds) its := by
    rcases S.kind with k | k
    · exact XB.sorts_tups e2 S.alike k room
    · exact SortsAt.data e2 S.alike (.inr k) room
  refine sorted_vals hl.isList SA len ?_
  have ek : EachIs (fun v (p : V × PyData) => (dataKind (sortingHeap (copyHeap s.heap its) (s.heap.objs.size + 1) its) ds).keyOf v = some (keyToks p.2)) its (vs.zip ds) := by
    have go : ∀ {vs : List V} {us : List Value} {es : List PyData}, EachIs (fun v d => ∃ as, Reads (sortingHeap (copyHeap s.heap its) (s.heap.objs.size + 1) its) v d as) us es → vs.length = es.length → (∀ d ∈ es, d ∈ ds) →
        EachIs (fun v (p : V × PyData) => (dataKind (sortingHeap (copyHeap s.heap its) (s.heap.objs.size + 1) its) ds).keyOf v = some (keyToks p.2)) us (vs.zip es) := by
      intro vs us es h
      induction h generalizing vs with
      | nil =>
        intro hl _
        cases vs with
        | nil => exact .nil
        | cons _ _ => cases hl
      | cons r t ih =>
        intro hl hm
        cases vs with
        | nil => cases hl
        | cons v vs =>
          obtain ⟨as, r⟩ := r
          exact .cons (dataKind_some S.alike (hm _ (List.mem_cons_self ..)) r) (ih (Nat.succ.inj hl) fun d hd => hm d (List.mem_cons_of_mem _ hd))
    refine go e2 ?_ fun d hd => hd
    have := (zip_fst hd).1
    have a := congrArg List.length this
    have b := congrArg List.length (zip_fst hd).2
    rw [List.length_map] at a b
    omega
  have out := sortVals_each (κ := dataKind (sortingHeap (copyHeap s.heap its) (s.heap.objs.size + 1) its) ds) (rev := false) (fun p : V × PyData => keyToks p.2) (each_pairs hd rv) ek
  have perm : ((vs.zip ds).mergeSort (sortLe (listOrd itemOrd) false fun p : V × PyData => keyToks p.2)).Perm (vs.zip ds) := List.mergeSort_perm _ _
  have snd : ((vs.zip ds).mergeSort (sortLe (listOrd itemOrd) false fun p : V × PyData => keyToks p.2)).map Prod.snd = srt ds := by
    have e := sort_maps (r := sortLe (listOrd itemOrd) false fun p : V × PyData => keyToks p.2) (s := dle) Prod.snd (l := vs.zip ds) (fun _ _ _ _ => rfl)
    rw [e, (zip_fst hd).2]
    rfl
  obtain ⟨n, hn⟩ := PyProof.Rows.sortedAll_at s.heap its (sortVals (dataKind (sortingHeap (copyHeap s.heap its) (s.heap.objs.size + 1) its) ds) false its its).toArray
  refine ⟨.ref (s.heap.objs.size + 1), upd H (s.heap.objs.size + 1) (.lst (((vs.zip ds).mergeSort (sortLe (listOrd itemOrd) false fun p : V × PyData => keyToks p.2)).map Prod.fst)),
    I.laid (t' := s.toks) (fun _ _ => PyProof.Rows.sortedAll_old) (Nat.le_succ _) ⟨?_, _, n, vals_of_each out, hn⟩, rfl, q _ _ perm snd (I.hok.fresh (Nat.le_succ _))⟩
  rw [List.length_map, perm.length_eq]
  have := congrArg List.length (zip_fst hd).1
  rw [List.length_map] at this
  omega
end XC

set_option maxRecDepth 100000
set_option maxHeartbeats 4000000
/-! sets of items (texts, numbers, tuples of these): made of a list or a tuple, walked, sorted -/
namespace XD
open PySem PySem.Spec PyProof.Rows L2

/-- a kind of items -/
structure ItK (P : Program) (w : World) (D : Type) where
  it : Heap → Value → D → Prop
  hash : D → Int
  one : ∀ {h : Heap} {v : Value} {d d' : D}, it h v d → it h v d' → d = d'
  keep : ∀ {h h' : Heap} {v : Value} {d : D}, it h v d → (∀ b o, h.get? b = some o → h'.get? b = some o) → it h' v d
  off : ∀ {h h' : Heap} {v : Value} {d : D} {a : Addr} {o : Obj} {es : Array (Int × Value)} {ep : Nat} {t : SetTable}, it h v d → h.get? a = some o → o.data = .set es ep t → Heap.SameBut a h h' → it h' v d
  ex : SetTable → List Int → Prop
  ex0 : ∀ b : Bool, ex (.fresh 0 0 b) []
  hashes : ∀ {A : Around} {E : Value → Shared → Prop} {s : Shared} {v : Value} {d : D} {Q : Int → Shared → Prop}, A.units < cLine → it s.heap v d →
    (∀ tk, s.toks ≤ tk → Q (hash d) { s with toks := tk }) → wpAny (model P w) A (pyHash v) Q E s

/-- the set at a has the items L -/
structure SetB {P : Program} {w : World} {D : Type} (κ : ItK P w D) (h : Heap) (a : Addr) (L : List (Value × D)) (es : Array (Int × Value)) (ep : Nat) (t : SetTable) : Prop where
  ob : ∃ o, h.get? a = some o ∧ o.ExactSet ∧ o.data = .set es ep t
  rows : es.toList = L.map fun p => (κ.hash p.2, p.1)
  nd : (L.map Prod.snd).Nodup
  its : ∀ p ∈ L, κ.it h p.1 p.2
  ris : Ris t.place.toList
  led : w.params.followText "set-order" = true ∨ t.led = true
  fits : t.fits es.size = true
  few : L.length < 64
  ex : κ.ex t (L.map fun p => κ.hash p.2)

section
variable {P : Program} {w : World} {D : Type} {κ : ItK P w D}
theorem SetB.size {h : Heap} {a : Addr} {L : List (Value × D)} {es : Array (Int × Value)} {ep : Nat} {t : SetTable} (B : SetB κ h a L es ep t) : es.size = L.length := by
  have q := congrArg List.length B.rows
  rwa [Array.length_toList, List.length_map] at q
theorem SetB.keep {h h' : Heap} {a : Addr} {L : List (Value × D)} {es : Array (Int × Value)} {ep : Nat} {t : SetTable} (B : SetB κ h a L es ep t) (ha : ∀ o, h.get? a = some o → h'.get? a = some o)
    (hi : ∀ p ∈ L, κ.it h' p.1 p.2) : SetB κ h' a L es ep t :=
  { B with ob := B.ob.imp fun o q => ⟨ha o q.1, q.2⟩, its := hi }
abbrev newSetObj (w : World) : Obj := { cls := .type "set", dict := none, data := .set #[] 0 (.fresh 0 0 (!w.params.followText "set-order")) }
theorem SetB.fresh {h : Heap} {a : Addr} (e : h.get? a = some (newSetObj w)) : SetB κ h a [] #[] 0 (.fresh 0 0 (!w.params.followText "set-order")) where
  ob := ⟨_, e, ⟨rfl, rfl, rfl⟩, rfl⟩
  rows := rfl
  nd := .nil
  its := fun _ m => nomatch m
  ris := .nil
  led := by
    show _ ∨ (!w.params.followText "set-order") = true
    cases w.params.followText "set-order" <;> simp
  fits := by rfl
  few := Nat.zero_lt_succ 63
  ex := κ.ex0 _

/-- adding an item -/
def Adds (κ : ItK P w D) : Prop := ∀ (A : Around) (E : Value → Shared → Prop) (s : Shared) (a : Addr) (L : List (Value × D)) (es : Array (Int × Value)) (ep : Nat) (t : SetTable) (x : Value) (d : D) (Q : Bool → Shared → Prop),
  A.units < cLine → SetB κ s.heap a L es ep t → κ.it s.heap x d → L.length + 1 < 64 →
  (∀ (b : Bool) (h' : Heap) (L' : List (Value × D)) (es' : Array (Int × Value)) (ep' : Nat) (t' : SetTable), Heap.SameBut a s.heap h' → SetB κ h' a L' es' ep' t' →
    (d ∈ L.map Prod.snd → L' = L) → (d ∉ L.map Prod.snd → L'.Perm ((x, d) :: L)) → Q b { s with heap := h' }) →
  wpAny (model P w) A (setAddHashed a x (κ.hash d)) Q E s

/-- what a set has of the first i of some items -/
structure Has (ks : List (Value × D)) (i : Nat) (L : List (Value × D)) : Prop where
  sub : ∀ p ∈ L, p ∈ ks.take i
  all : ∀ p ∈ ks.take i, p.2 ∈ L.map Prod.snd
  len : L.length ≤ i
theorem Has.none (ks : List (Value × D)) : Has ks 0 [] := ⟨fun _ m => (nomatch m), fun p m => by simp at m, Nat.le_refl _⟩
theorem take_one {α : Type} {l : List α} {i : Nat} {x : α} (h : l[i]? = some x) : l.take (i + 1) = l.take i ++ [x] := by
  rw [List.take_add_one, h, Option.toList_some]
theorem Has.step [DecidableEq D] {ks L L' : List (Value × D)} {i : Nat} {x : Value × D} (g : Has ks i L) (h : ks[i]? = some x) (old : x.2 ∈ L.map Prod.snd → L' = L) (new : x.2 ∉ L.map Prod.snd → L'.Perm (x :: L)) : Has ks (i + 1) L' := by
  have e := take_one h
  by_cases m : x.2 ∈ L.map Prod.snd
  · rw [old m]
    refine ⟨fun p q => ?_, fun p q => ?_, Nat.le_succ_of_le g.len⟩
    · rw [e]
      exact List.mem_append_left _ (g.sub p q)
    · rw [e, List.mem_append, List.mem_singleton] at q
      exact q.elim (g.all p) fun z => z ▸ m
  · have pm := new m
    refine ⟨fun p q => ?_, fun p q => ?_, ?_⟩
    · rw [e, List.mem_append, List.mem_singleton]
      exact (List.mem_cons.mp (pm.mem_iff.mp q)).elim .inr fun z => .inl (g.sub p z)
    · rw [e, List.mem_append, List.mem_singleton] at q
      rw [(pm.map Prod.snd).mem_iff, List.map_cons, List.mem_cons]
      exact q.elim (fun z => .inr (g.all p z)) fun z => .inl (congrArg Prod.snd z)
    · have := pm.length_eq
      rw [List.length_cons] at this
      have := g.len
      omega

theorem fill_set [DecidableEq D] (add : Adds κ) {A : Around} {I : Addr} {fp wr : List Addr} {G : Array GenState → Array GenState → Prop} {n : Nat} {Pv : Nat → Value → Prop} {St : Nat → Shared → Prop} {R : Result → Shared → Prop}
    (W : WalksS P w A.in1 I fp wr G n Pv St) {S : Addr} (off : S ∉ fp) {ks : List (Value × D)} (hn : n = ks.length) (few : ks.length < 64) (val : ∀ i v, Pv i v → ∃ d, ks[i]? = some (v, d))
    {h0 : Heap} (hk : ∀ p ∈ ks, κ.it h0 p.1 p.2) (fS : h0.get? S = none) (fW : ∀ b ∈ wr, h0.get? b = none) (hu : A.in1.units < cLine) :
    ∀ (m i : Nat) (s : Shared), n - i = m → i ≤ n → St i s → (∀ b o, h0.get? b = some o → s.heap.get? b = some o) →
      (∃ L es ep t, SetB κ s.heap S L es ep t ∧ Has ks i L) →
      (∀ s' L es ep t, Moved (S :: wr) G s s' → SetB κ s'.heap S L es ep t → Has ks n L → (∀ b o, h0.get? b = some o → s'.heap.get? b = some o) → R (.ok (.ret .none)) s') →
      codeAny (model P w) A (.builtin "set.update.loop" ⟨[.ref S, .ref I], []⟩) R s := by
  have offW : S ∉ wr := fun z => off (W.sub _ z)
  have wide : ∀ b ∈ wr, b ∈ S :: wr := fun b => List.mem_cons_of_mem S
  have stay : ∀ {s s' : Shared}, Moved wr G s s' → (∀ b o, h0.get? b = some o → s.heap.get? b = some o) → ∀ b o, h0.get? b = some o → s'.heap.get? b = some o := by
    intro s s' mv k b o e
    refine mv.heap b o (fun z => ?_) (k b o e)
    rw [fW b z] at e
    cases e
  have here : ∀ {s : Shared} {i : Nat} {L : List (Value × D)}, Has ks i L → (∀ b o, h0.get? b = some o → s.heap.get? b = some o) → ∀ p ∈ L, κ.it s.heap p.1 p.2 :=
    fun g k p m => κ.keep (hk p (List.mem_of_mem_take (g.sub p m))) k
  intro m
  induction m with
  | zero =>
    intro i s em hi st k hS fin
    obtain ⟨L, es, ep, t, B, g⟩ := hS
    obtain rfl : i = n := by omega
    refine codeAny_builtin PyProof.Rows.F.entry_set_update_loop ?_
    rw [Around.under_plainId PyProof.Rows.F.plain_set_update_loop]
    refine wpAny_bind (W.done s _ _ st fun s' mv => ?_)
    exact wpAny_pure (fin s' L es ep t (mv.mono wide) (B.keep (fun o => mv.heap S o offW) (here g (stay mv k))) g (stay mv k))
  | succ m ih =>
    intro i s em hi st k hS fin
    obtain ⟨L, es, ep, t, B, g⟩ := hS
    have lt : i < n := by omega
    refine codeAny_builtin PyProof.Rows.F.entry_set_update_loop ?_
    rw [Around.under_plainId PyProof.Rows.F.plain_set_update_loop]
    refine wpAny_bind (W.item i s _ _ lt st fun v s1 pv st1 mv => ?_)
    obtain ⟨d, hd⟩ := val i v pv
    have k1 := stay mv k
    have B1 := B.keep (fun o => mv.heap S o offW) (here g k1)
    have x1 : κ.it s1.heap v d := κ.keep (hk _ (List.mem_of_getElem? hd)) k1
    show wpAny _ A.in1 (holding [v] (setAdd S v) >>= _) _ _ s1
    refine wpAny_bind (wpAny_holding ?_)
    unfold setAdd
    refine wpAny_holding (wpAny_bind (κ.hashes hu x1 fun tk ht => ?_))
    refine add A.in1 _ { s1 with toks := tk } S L es ep t v d _ hu B1 x1 (by have := g.len; omega) fun b h2 L2 es2 ep2 t2 sb B2 c1 c2 => ?_
    have k2 : ∀ b o, h0.get? b = some o → h2.get? b = some o := by
      intro b o e
      refine (sb.2 b fun z => ?_).trans (k1 b o e)
      rw [z, fS] at e
      cases e
    refine wpAny_pure ⟨plainId_quiet PyProof.Rows.F.plain_set_update_loop _, ih (i + 1) _ (by omega) lt (W.frame _ s1 _ _ st1 ht fun b hb o e => ?_) k2 ⟨L2, es2, ep2, t2, B2, g.step hd c1 c2⟩ fun s3 L3 es3 ep3 t3 mv3 B3 g3 k3 => ?_⟩
    · exact (sb.2 b fun z => off (z ▸ hb)).trans e
    · refine fin s3 L3 es3 ep3 t3 (Moved.trans W.gtrans ((mv.mono wide).then_heap ht fun b o hb e => ?_) mv3) B3 g3 k3
      exact (sb.2 b fun z => hb (z ▸ List.mem_cons_self ..)).trans e

theorem none_at {h : Heap} {b : Addr} (hb : h.objs.size ≤ b) : h.get? b = none := by
  cases q : h.get? b with
  | none => rfl
  | some o => exact absurd (Heap.lt_size q) (Nat.not_lt.mpr hb)

set_option maxHeartbeats 8000000 in
/-- set(xs), xs a list -/
theorem set_of_list [DecidableEq D] (add : Adds κ) {A : Around} {E : Value → Shared → Prop} {s : Shared} {l : Addr} {items : Array Value} {ks : List (Value × D)} {Q : Value → Shared → Prop} (calm : A.handled = none) (hl : s.heap.IsList l items)
    (em : items.toList = ks.map Prod.fst) (hk : ∀ p ∈ ks, κ.it s.heap p.1 p.2) (few : ks.length < 64) (hu : A.units + 3 < cLine)
    (h : ∀ (h' : Heap) (tk : Nat) L es ep t, SetB κ h' s.heap.objs.size L es ep t → Has ks ks.length L → (∀ b o, s.heap.get? b = some o → h'.get? b = some o) → Q (.ref s.heap.objs.size) { s with heap := h', toks := tk }) :
    wpAny (model P w) A (call (.type "set") [.ref l]) Q E s := by
  have num : items.size = ks.length := by
    have q := congrArg List.length em
    rwa [Array.length_toList, List.length_map] at q
  have m1 := F.called_set.mro
  have m2 := F.called_set.made
  have m3 := F.called_set.sub
  obtain ⟨c, tl, m0⟩ := m1
  refine wpAny_call (codeAny_of_tree ?_)
  show wpAny _ _ (callAny (.type "set") _) _ _ _
  refine wpAny_pure ⟨Code.quiet_builtin _ (by decide +kernel), codeAny_builtin F.entry_type_call ?_⟩
  rw [Around.under_plain (weight_type_call_type "set" [.ref l] []) rfl]
  have m4 := F.called_set.notType
  have m5 := F.called_set.canCreate
  have m6 := F.typeCall_set_1 (.ref l)
  repeat any_goals first | assumption | wp_step
  refine codeAny_mono (code_set_led1 (.ref l) (E := E) (Q₁ := fun v s1 => v = .ref s.heap.objs.size ∧ s1 = { s with heap := s.heap.push (newSetObj w) }) ⟨rfl, rfl⟩) fun r s1 hr => ?_
  match r, hr with
  | .error _, hr => exact hr
  | .ok (.ret v), hr =>
    obtain ⟨e1, e2⟩ := hr
    subst e1
    subst e2
    have made : (s.heap.push (newSetObj w)).get? s.heap.objs.size = some (newSetObj w) := Heap.get?_push_size _ rfl
    have ty : Shared.TypeIs { s with heap := s.heap.push (newSetObj w) } (.ref s.heap.objs.size) "set" := ⟨_, made, rfl⟩
    have m7 := F.called_set.init.lookup
    have m8 := F.called_set.init.bind (.ref s.heap.objs.size)
    repeat any_goals first | assumption | wp_step
    refine codeAny_mono (codeAny_call_builtin (R := wants (fun r s2 => r = .none ∧ ∃ h' tk L es ep t, s2 = { s with heap := h', toks := tk } ∧ SetB κ h' s.heap.objs.size L es ep t ∧ Has ks ks.length L ∧ ∀ b o, s.heap.get? b = some o → h'.get? b = some o) E)
      F.called_set.init.plain F.entry_set_init (check_set_init_1 ty ?_)) fun r2 s2 hr2 => ?_
    · obtain ⟨⟨c0, d0, dt, sl⟩, ol, c1, n1, d1⟩ := hl
      simp only at c1 d1
      subst c1 d1
      have ol1 : (s.heap.push (newSetObj w)).get? l = some { cls := .type "list", dict := d0, data := .seq items n1, slots := sl } := Heap.get?_push_of_some _ ol
      have s1 := F.sub_list_set
      have s2 := F.sub_list_frozenset
      have nd : (Value.type "list" == Value.type "dict") = false := by decide
      have il : (s.heap.push (newSetObj w)).IsList l items := ⟨_, ol1, rfl, n1, rfl⟩
      unfold Builtin.«set.__init__» noKeywords Builtin.Frozenset.updateFrom
      generalize hi : pyIter = it
      wp_walk
      subst hi
      refine wpAny_pyIter_list il (wpAny_bind (wpAny_runValue ?_))
      have ll : l < s.heap.objs.size := Heap.lt_size ol
      have sz : (s.heap.push (newSetObj w)).objs.size = s.heap.objs.size + 1 := Heap.size_push ..
      have ne : l ≠ (s.heap.push (newSetObj w)).objs.size := by
        rw [sz]
        exact Nat.ne_of_lt (Nat.lt_succ_of_lt ll)
      have offS : s.heap.objs.size ∉ [(s.heap.push (newSetObj w)).objs.size, l] := by
        rw [sz]
        simp only [List.mem_cons, List.not_mem_nil, or_false, not_or]
        exact ⟨Nat.ne_of_lt (Nat.lt_succ_self _), Nat.ne_of_gt ll⟩
      have val : ∀ (i : Nat) (v : Value), items[i]? = some v → ∃ d, ks[i]? = some (v, d) := by
        intro i v hv
        rw [← Array.getElem?_toList, em, List.getElem?_map] at hv
        cases q : ks[i]? with
        | none =>
          rw [q] at hv
          cases hv
        | some p =>
          rw [q] at hv
          obtain rfl : p.1 = v := Option.some.inj hv
          exact ⟨p.2, rfl⟩
      have c3 : A.in1.in1.in1.handled = none := by simp [calm]
      refine fill_set add (Walks.list c3 _ l ne items).toS offS num few val hk (none_at (Nat.le_refl _)) (fun b hb => none_at ?_) hu (items.size - 0) 0 _ (by omega) (Nat.zero_le _)
        ⟨⟨_, Heap.get?_push_size _ rfl, rfl, rfl⟩, il.push _⟩ (fun b o e => Heap.get?_push_of_some _ (Heap.get?_push_of_some _ e)) ⟨[], #[], 0, _, SetB.fresh (Heap.get?_push_of_some _ made), Has.none ks⟩ fun s3 L es ep t mv B g k => ?_
      · rw [List.mem_singleton.mp hb, sz]
        exact Nat.le_succ _
      · obtain ⟨h3, g3, d3, tk3, os3⟩ := s3
        have z1 : g3 = s.gens := mv.gens
        have z2 : d3 = s.drawn := mv.drawn
        have z3 : os3 = s.os := mv.os
        subst z1 z2 z3
        refine wpAny_pure ?_
        show wpAny _ _ (ret Value.none) _ _ _
        rw [num] at g
        exact wpAny_pure ⟨rfl, h3, tk3, L, es, ep, t, rfl, B, g, k⟩
    · match r2, hr2 with
      | .error _, hr2 => exact hr2
      | .ok (.ret r), hr2 =>
        obtain ⟨e1, h', tk, L, es, ep, t, e2, B, g, k⟩ := hr2
        subst e1 e2
        repeat any_goals first | assumption | wp_step
        exact h _ _ _ _ _ _ B g k

set_option maxHeartbeats 8000000 in
/-- set(xs), xs a tuple -/
theorem set_of_tuple [DecidableEq D] (add : Adds κ) {A : Around} {E : Value → Shared → Prop} {s : Shared} {l : Addr} {items : Array Value} {ks : List (Value × D)} {Q : Value → Shared → Prop} (calm : A.handled = none) (hl : s.heap.IsTuple l items)
    (em : items.toList = ks.map Prod.fst) (hk : ∀ p ∈ ks, κ.it s.heap p.1 p.2) (few : ks.length < 64) (hu : A.units + 3 < cLine)
    (h : ∀ (h' : Heap) (tk : Nat) L es ep t, SetB κ h' s.heap.objs.size L es ep t → Has ks ks.length L → (∀ b o, s.heap.get? b = some o → h'.get? b = some o) → Q (.ref s.heap.objs.size) { s with heap := h', toks := tk }) :
    wpAny (model P w) A (call (.type "set") [.ref l]) Q E s := by
  have num : items.size = ks.length := by
    have q := congrArg List.length em
    rwa [Array.length_toList, List.length_map] at q
  have m1 := F.called_set.mro
  have m2 := F.called_set.made
  have m3 := F.called_set.sub
  obtain ⟨c, tl, m0⟩ := m1
  refine wpAny_call (codeAny_of_tree ?_)
  show wpAny _ _ (callAny (.type "set") _) _ _ _
  refine wpAny_pure ⟨Code.quiet_builtin _ (by decide +kernel), codeAny_builtin F.entry_type_call ?_⟩
  rw [Around.under_plain (weight_type_call_type "set" [.ref l] []) rfl]
  have m4 := F.called_set.notType
  have m5 := F.called_set.canCreate
  have m6 := F.typeCall_set_1 (.ref l)
  repeat any_goals first | assumption | wp_step
  refine codeAny_mono (code_set_led1 (.ref l) (E := E) (Q₁ := fun v s1 => v = .ref s.heap.objs.size ∧ s1 = { s with heap := s.heap.push (newSetObj w) }) ⟨rfl, rfl⟩) fun r s1 hr => ?_
  match r, hr with
  | .error _, hr => exact hr
  | .ok (.ret v), hr =>
    obtain ⟨e1, e2⟩ := hr
    subst e1
    subst e2
    have made : (s.heap.push (newSetObj w)).get? s.heap.objs.size = some (newSetObj w) := Heap.get?_push_size _ rfl
    have ty : Shared.TypeIs { s with heap := s.heap.push (newSetObj w) } (.ref s.heap.objs.size) "set" := ⟨_, made, rfl⟩
    have m7 := F.called_set.init.lookup
    have m8 := F.called_set.init.bind (.ref s.heap.objs.size)
    repeat any_goals first | assumption | wp_step
    refine codeAny_mono (codeAny_call_builtin (R := wants (fun r s2 => r = .none ∧ ∃ h' tk L es ep t, s2 = { s with heap := h', toks := tk } ∧ SetB κ h' s.heap.objs.size L es ep t ∧ Has ks ks.length L ∧ ∀ b o, s.heap.get? b = some o → h'.get? b = some o) E)
      F.called_set.init.plain F.entry_set_init (check_set_init_1 ty ?_)) fun r2 s2 hr2 => ?_
    · obtain ⟨⟨c0, d0, dt, sl⟩, ol, c1, n1, d1⟩ := hl
      simp only at c1 d1
      subst c1 d1
      have ol1 : (s.heap.push (newSetObj w)).get? l = some { cls := .type "tuple", dict := d0, data := .seq items n1, slots := sl } := Heap.get?_push_of_some _ ol
      have s1 := F.sub_tuple_set
      have s2 := F.sub_tuple_frozenset
      have nd : (Value.type "tuple" == Value.type "dict") = false := by decide
      have il : (s.heap.push (newSetObj w)).IsTuple l items := ⟨_, ol1, rfl, n1, rfl⟩
      unfold Builtin.«set.__init__» noKeywords Builtin.Frozenset.updateFrom
      generalize hi : pyIter = it
      wp_walk
      subst hi
      refine wpAny_pyIter_tuple il (wpAny_bind (wpAny_runValue ?_))
      have ll : l < s.heap.objs.size := Heap.lt_size ol
      have sz : (s.heap.push (newSetObj w)).objs.size = s.heap.objs.size + 1 := Heap.size_push ..
      have ne : l ≠ (s.heap.push (newSetObj w)).objs.size := by
        rw [sz]
        exact Nat.ne_of_lt (Nat.lt_succ_of_lt ll)
      have offS : s.heap.objs.size ∉ [(s.heap.push (newSetObj w)).objs.size, l] := by
        rw [sz]
        simp only [List.mem_cons, List.not_mem_nil, or_false, not_or]
        exact ⟨Nat.ne_of_lt (Nat.lt_succ_self _), Nat.ne_of_gt ll⟩
      have val : ∀ (i : Nat) (v : Value), items[i]? = some v → ∃ d, ks[i]? = some (v, d) := by
        intro i v hv
        rw [← Array.getElem?_toList, em, List.getElem?_map] at hv
        cases q : ks[i]? with
        | none =>
          rw [q] at hv
          cases hv
        | some p =>
          rw [q] at hv
          obtain rfl : p.1 = v := Option.some.inj hv
          exact ⟨p.2, rfl⟩
      have c3 : A.in1.in1.in1.handled = none := by simp [calm]
      refine fill_set add (Walks.tuple c3 _ l ne items).toS offS num few val hk (none_at (Nat.le_refl _)) (fun b hb => none_at ?_) hu (items.size - 0) 0 _ (by omega) (Nat.zero_le _)
        ⟨⟨_, Heap.get?_push_size _ rfl, rfl, rfl⟩, il.push _⟩ (fun b o e => Heap.get?_push_of_some _ (Heap.get?_push_of_some _ e)) ⟨[], #[], 0, _, SetB.fresh (Heap.get?_push_of_some _ made), Has.none ks⟩ fun s3 L es ep t mv B g k => ?_
      · rw [List.mem_singleton.mp hb, sz]
        exact Nat.le_succ _
      · obtain ⟨h3, g3, d3, tk3, os3⟩ := s3
        have z1 : g3 = s.gens := mv.gens
        have z2 : d3 = s.drawn := mv.drawn
        have z3 : os3 = s.os := mv.os
        subst z1 z2 z3
        refine wpAny_pure ?_
        show wpAny _ _ (ret Value.none) _ _ _
        rw [num] at g
        exact wpAny_pure ⟨rfl, h3, tk3, L, es, ep, t, rfl, B, g, k⟩
    · match r2, hr2 with
      | .error _, hr2 => exact hr2
      | .ok (.ret r), hr2 =>
        obtain ⟨e1, h', tk, L, es, ep, t, e2, B, g, k⟩ := hr2
        subst e1 e2
        repeat any_goals first | assumption | wp_step
        exact h _ _ _ _ _ _ B g k
end
end XD

set_option maxRecDepth 100000
set_option maxHeartbeats 4000000
/-! items: whole numbers and texts -/
namespace XD
open PySem PySem.Spec PyProof.Rows L2

theorem lift_perm {α β : Type} {f : α → β} : ∀ {l n : List β}, l.Perm n → ∀ m : List α, n = m.map f → ∃ m' : List α, m'.Perm m ∧ l = m'.map f := by
  intro l n p
  induction p with
  | nil =>
    intro m e
    cases m with
    | nil => exact ⟨[], .refl _, rfl⟩
    | cons _ _ => cases e
  | cons x _ ih =>
    intro m e
    cases m with
    | nil => cases e
    | cons a m =>
      rw [List.map_cons] at e
      obtain ⟨e1, e2⟩ := List.cons.inj e
      obtain ⟨m', p', e'⟩ := ih m e2
      exact ⟨a :: m', p'.cons a, by rw [List.map_cons, e1, e']⟩
  | swap x y l =>
    intro m e
    match m, e with
    | [], e => cases e
    | [_], e => cases e
    | a :: b :: m, e =>
      rw [List.map_cons, List.map_cons] at e
      obtain ⟨e1, e2⟩ := List.cons.inj e
      obtain ⟨e2, e3⟩ := List.cons.inj e2
      exact ⟨b :: a :: m, .swap a b m, by rw [List.map_cons, List.map_cons, e1, e2, e3]⟩
  | trans _ _ ih1 ih2 =>
    intro m e
    obtain ⟨m1, p1, e1⟩ := ih2 m e
    obtain ⟨m2, p2, e2⟩ := ih1 m1 e1
    exact ⟨m2, p2.trans p1, e2⟩

section
variable (P : Program) (w : World)
/-- numbers and texts as items -/
def kS : ItK P w Key where
  it := fun _ v k => (mixKind P w).is k v = true ∧ v.scannable = true
  hash := (mixKind P w).hash
  one := fun h h' => (mixKind P w).inj _ _ _ h.1 h'.1
  keep := fun h _ => h
  off := fun h _ _ _ => h
  ex := fun _ _ => True
  ex0 := fun _ => trivial
  hashes := fun _ h q => (mixKind P w).pyHash h.1 (q _ (Nat.le_succ _))
end

section
variable {P : Program} {w : World} {A : Around} {E : Value → Shared → Prop} {s : Shared}
theorem elems_kS {h : Heap} {a : Addr} {L : List (Value × Key)} {es : Array (Int × Value)} {ep : Nat} {t : SetTable} (B : SetB (kS P w) h a L es ep t) : ElemsOf (mixKind P w) es.toList := by
  intro e he
  rw [B.rows] at he
  obtain ⟨p, hp, rfl⟩ := List.mem_map.mp he
  exact ⟨⟨p.2, (B.its p hp).1, rfl⟩, (B.its p hp).2⟩
theorem size_small {n : Nat} (h : n < 64) : n < scanBound := Nat.lt_of_lt_of_le h (by unfold scanBound; omega)
/-- a set laid anew with other entries -/
theorem laidB {a : Addr} {o : Obj} {es es1 : Array (Int × Value)} {ep : Nat} {t t1 : SetTable} {L1 : List (Value × Key)} (ho : s.heap.get? a = some o) (hx : o.ExactSet) (hd : o.data = .set es ep t)
    (rows : es1.toList = L1.map fun p => ((mixKind P w).hash p.2, p.1)) (nd : (L1.map Prod.snd).Nodup) (its : ∀ p ∈ L1, (mixKind P w).is p.2 p.1 = true ∧ p.1.scannable = true) (ris : Ris t1.place.toList)
    (led : w.params.followText "set-order" = true ∨ t1.led = true) (fits : t1.fits es1.size = true) (few : L1.length < 64) :
    SetB (kS P w) (s.heap.update a (Obj.putSet es1 t1)) a L1 es1 (ep + 1) t1 :=
  { ob := ⟨_, store_at ho hd, hx, rfl⟩, rows := rows, nd := nd, its := its, ris := ris, led := led, fits := fits, few := few, ex := trivial }

theorem adds_kS : Adds (kS P w) := by
  intro A E s a L es ep t x k Q _ B hx few hQ
  obtain ⟨o, ho, hex, hd⟩ := B.ob
  obtain ⟨hk, hs⟩ := hx
  have el := elems_kS B
  have sm : es.size < scanBound := size_small (by rw [B.size]; exact B.few)
  show wpAny _ _ (setAddHashed a x ((mixKind P w).hash k)) _ _ _
  unfold setAddHashed setAddHashedIn
  refine wpAny_holding (wpAny_bind (wpAny_setState_of ho hd B.fits ?_))
  dsimp only
  rw [byScan_of hs sm el]
  simp only [↓reduceIte]
  unfold setAddByScan
  refine wpAny_bind (wpAny_bind (wpAny_rule (wpAny_bind (wpAny_setScan_of hk ho hd B.fits el ?_))))
  have mem : k ∈ L.map Prod.snd ↔ ∃ e ∈ es.toList, (mixKind P w).is k e.2 = true := by
    rw [B.rows]
    constructor
    · intro m
      obtain ⟨p, hp, rfl⟩ := List.mem_map.mp m
      exact ⟨_, List.mem_map.mpr ⟨p, hp, rfl⟩, (B.its p hp).1⟩
    · rintro ⟨e, he, q⟩
      obtain ⟨p, hp, rfl⟩ := List.mem_map.mp he
      exact List.mem_map.mpr ⟨p, hp, (mixKind P w).inj _ _ _ (B.its p hp).1 q⟩
  cases fi : List.findIdx? (fun e => (mixKind P w).is k e.2) es.toList with
  | some j =>
    dsimp only
    obtain ⟨hj, pj, _⟩ := List.findIdx?_eq_some_iff_getElem.mp fi
    have m := mem.mpr ⟨_, List.getElem_mem hj, pj⟩
    exact wpAny_pure (wpAny_pure (hQ false s.heap L es ep t (.refl a s.heap) B (fun _ => rfl) fun z => absurd m z))
  | none =>
    dsimp only
    have m : k ∉ L.map Prod.snd := fun z => by
      obtain ⟨e, he, q⟩ := mem.mp z
      have c := List.findIdx?_eq_none_iff.mp fi e he
      rw [q] at c
      cases c
    have gw : ∀ (b : Bool) {s1 : Shared} {Q' : Unit → Shared → Prop}, Q' () s1 → wpAny (model P w) A (match b with | true => rule "set.scan.the-table-gave-way" | false => pure ()) Q' E s1 := by
      intro b s1 Q' q
      cases b
      · exact wpAny_pure q
      · exact wpAny_rule q
    have p0 := layNew_perm t es ((mixKind P w).hash k) x
    have f0 := layNew_fits t es ((mixKind P w).hash k) x
    have r0 := layNew_ris t es ((mixKind P w).hash k) x B.ris
    have l0 := layNew_led t es ((mixKind P w).hash k) x
    generalize layNew t es ((mixKind P w).hash k) x = Z at p0 f0 r0 l0 ⊢
    obtain ⟨es1, t1, dummy, gave⟩ := Z
    dsimp only at p0 f0 r0 l0 ⊢
    rw [Array.toList_push, B.rows] at p0
    obtain ⟨L1, p1, e1⟩ := lift_perm (f := fun p : Value × Key => ((mixKind P w).hash p.2, p.1)) (p0.trans (List.perm_append_singleton _ _)) ((x, k) :: L) rfl
    have len1 : L1.length < 64 := by
      rw [p1.length_eq]
      exact few
    have nd1 : (L1.map Prod.snd).Nodup := (p1.map Prod.snd).nodup_iff.mpr (List.nodup_cons.mpr ⟨m, B.nd⟩)
    have its1 : ∀ p ∈ L1, (mixKind P w).is p.2 p.1 = true ∧ p.1.scannable = true := by
      intro p hp
      rcases List.mem_cons.mp (p1.mem_iff.mp hp) with e | hp
      · rw [e]
        exact ⟨hk, hs⟩
      · exact B.its p hp
    have led1 : w.params.followText "set-order" = true ∨ t1.led = true := by
      rw [l0]
      exact B.led
    have sz1 : es1.size = L1.length := by
      rw [← Array.length_toList, e1, List.length_map]
    have done : ∀ (h' : Heap) (L2 : List (Value × Key)) (es2 : Array (Int × Value)) (ep2 : Nat) (t2 : SetTable), Heap.SameBut a s.heap h' → SetB (kS P w) h' a L2 es2 ep2 t2 → L2.Perm L1 → Q true { s with heap := h' } :=
      fun h' L2 es2 ep2 t2 sb B2 p2 => hQ true h' L2 es2 ep2 t2 sb B2 (fun z => absurd z m) fun _ => p2.trans p1
    have tail : ∀ t2 : SetTable, Ris t2.place.toList → (w.params.followText "set-order" = true ∨ t2.led = true) → t2.fits es1.size = true → ∀ {g : Bool → Sem Unit}, (∀ (b : Bool) (s1 : Shared) (Q' : Unit → Shared → Prop), Q' () s1 → wpAny (model P w) A (g b) Q' E s1) →
        ∀ {R : Option Bool → Shared → Prop}, (∀ h', Q true { s with heap := h' } → R (some true) { s with heap := h' }) → wpAny (model P w) A (do
          storeSet a es1 t2
          if (!dummy && t2.tooFull) = true then do
              g (relayAll t2 es1 (SetTable.grown es1.size)).2.2
              storeSet a (relayAll t2 es1 (SetTable.grown es1.size)).1 (relayAll t2 es1 (SetTable.grown es1.size)).2.1
              pure (some true)
            else pure (some true)) R E s := by
      intro t2 r2 l2 f2 g hg R hR
      have b1 := laidB (P := P) (w := w) ho hex hd e1 nd1 its1 r2 l2 f2 len1
      have sb1 : Heap.SameBut a s.heap (s.heap.update a (Obj.putSet es1 t2)) := .update ..
      refine wpAny_bind (wpAny_storeSet_of ho hd ?_ (fits_of_scanBound (size_small (by rw [sz1]; exact len1))))
      split
      · have p3 := relayAll_perm t2 es1 (SetTable.grown es1.size)
        have f3 := relayAll_fits t2 es1 (SetTable.grown es1.size)
        have r3 := relayAll_ris t2 es1 (SetTable.grown es1.size)
        have l3 := relayAll_led t2 es1 (SetTable.grown es1.size)
        generalize relayAll t2 es1 (SetTable.grown es1.size) = Y at p3 f3 r3 l3 ⊢
        obtain ⟨es3, t3, gave3⟩ := Y
        dsimp only at p3 f3 r3 l3 ⊢
        rw [e1] at p3
        obtain ⟨L3, p4, e3⟩ := lift_perm (f := fun p : Value × Key => ((mixKind P w).hash p.2, p.1)) p3 L1 rfl
        have len3 : L3.length < 64 := by
          rw [p4.length_eq]
          exact len1
        have sz3 : es3.size < 64 := by
          rw [← Array.length_toList, e3, List.length_map]
          exact len3
        obtain ⟨o1, ho1, hx1, hd1⟩ := b1.ob
        refine wpAny_bind (hg _ _ _ (wpAny_bind (wpAny_storeSet_of ho1 hd1 ?_ (fits_of_scanBound (size_small sz3)))))
        have b3 := laidB (P := P) (w := w) (s := { s with heap := s.heap.update a (Obj.putSet es1 t2) }) ho1 hx1 hd1 e3 ((p4.map Prod.snd).nodup_iff.mpr nd1) (fun p hp => its1 p (p4.mem_iff.mp hp)) r3 (by rw [l3]; exact l2) f3 len3
        exact wpAny_pure (hR _ (done _ L3 es3 _ t3 (sb1.trans (.update ..)) b3 p4))
      · exact wpAny_pure (hR _ (done _ L1 es1 _ t2 sb1 b1 (.refl _)))
    have gw' : ∀ (b : Bool) (s1 : Shared) (Q' : Unit → Shared → Prop), Q' () s1 → wpAny (model P w) A (match b with | true => rule "set.scan.the-table-gave-way" | false => pure ()) Q' E s1 := fun b s1 Q' q => gw b q
    refine wpAny_bind (gw _ ?_)
    split
    · refine wpAny_bind ?_
      rw [hashByValue_scannable 8 hs]
      refine wpAny_pure ?_
      refine tail _ ?_ ?_ ?_ ?_ ?_
      · first | exact r0 | (split <;> exact r0)
      · first | exact led1 | (split <;> exact led1)
      · first | exact f0 | (split <;> first | exact f0 | exact SetTable.fits_plain_off f0)
      · intro b s1 Q' q
        cases b <;> first | exact wpAny_pure q | exact wpAny_rule q
      · intro h' q
        dsimp only
        exact wpAny_pure q
    · refine wpAny_bind (wpAny_pure ?_)
      simp only [↓reduceIte]
      refine tail _ r0 led1 f0 ?_ ?_
      · intro b s1 Q' q
        cases b <;> first | exact wpAny_pure q | exact wpAny_rule q
      · intro h' q
        dsimp only
        exact wpAny_pure q
end
end XD

set_option maxRecDepth 100000
set_option maxHeartbeats 4000000
/-! items: tuples of whole numbers and texts -/
namespace XD
open PySem PySem.Spec PyProof.Rows L2

section
variable (P : Program) (w : World)
abbrev hT (ks : List Key) : Int := tupleKeyHash (mixKind P w) ks
abbrev isT (h : Heap) (ks : List Key) (b : Addr) : Prop := IsTupleKey (mixKind P w) h ks b
end

section
variable {P : Program} {w : World} {A : Around} {E : Value → Shared → Prop} {s : Shared}
theorem isT_up {h h' : Heap} {ks : List Key} {b : Addr} (x : isT P w h ks b) (k : ∀ c o, h.get? c = some o → h'.get? c = some o) : isT P w h' ks b :=
  let ⟨o, its, n, e, q⟩ := x
  ⟨o, its, n, k b o e, q⟩
theorem isT_off {h h' : Heap} {ks : List Key} {a b : Addr} {o : Obj} {es : Array (Int × Value)} {ep : Nat} {t : SetTable} (x : isT P w h ks b) (ho : h.get? a = some o) (hd : o.data = .set es ep t) (sb : Heap.SameBut a h h') : isT P w h' ks b := by
  obtain ⟨ob, its, n, e, c, d, q⟩ := x
  refine ⟨ob, its, n, (sb.2 b fun z => ?_).trans e, c, d, q⟩
  rw [z, ho] at e
  cases e
  rw [hd] at d
  cases d
/-- what is asked of the items of a tuple -/
theorem leaves {ks : List Key} {vs : List Value} (h : ItemsAre (mixKind P w) ks vs) : ∀ v ∈ vs, (∀ n, ofAClassStatement n v = pure false) ∧ ∃ b : Bool, ∀ n, hashByValue n v = pure b := by
  induction h with
  | nil => exact fun _ m => nomatch m
  | cons h1 _ ih =>
    intro v m
    rcases List.mem_cons.mp m with e | m
    · subst e
      rcases keyIs_shape h1 with ⟨i, t, _, e⟩ | ⟨x, t, _, e⟩
      · subst e
        exact ⟨fun n => by cases n <;> rfl, true, fun n => by cases n <;> rfl⟩
      · subst e
        exact ⟨fun n => by cases n <;> rfl, false, fun n => by cases n <;> rfl⟩
    · exact ih v m
theorem no_class {ks : List Key} {b : Addr} {Q : Bool → Shared → Prop} (hk : isT P w s.heap ks b) (q : Q false s) : wpAny (model P w) A (ofAClassStatement 8 (.ref b)) Q E s := by
  have ty := hk.typeIs
  obtain ⟨o, its, n, ho, _, hd, hi⟩ := hk
  have lv := leaves hi
  unfold ofAClassStatement
  refine wpAny_bind (wpAny_typeOf ty ?_)
  dsimp only
  simp only [show (("tuple" : String) == "tuple") = true by decide, if_true, Bool.not_true, Bool.false_eq_true, if_false]
  try refine wpAny_bind (wpAny_pure ?_)
  try simp only [Bool.not_true, Bool.false_eq_true, if_false]
  show wpAny _ _ (seqItems? (.ref b) >>= _) _ _ s
  refine wpAny_bind (wpAny_seqItems ho hd ?_)
  dsimp only
  refine wpAny_bind ?_
  show wpAny _ _ (forIn its _ _) _ _ s
  rw [← Array.forIn_toList]
  refine wpAny_forIn_list _ (fun more r s' => (r.1 = none ∧ s' = s) ∧ ∀ v ∈ more, ∀ n, ofAClassStatement n v = pure false) _ ?_ ?_ _ _ ⟨⟨rfl, rfl⟩, fun v m => (lv v m).1⟩
  · rintro v more r s' ⟨⟨hr, rfl⟩, all⟩
    rw [all v List.mem_cons_self]
    refine wpAny_bind (wpAny_pure ?_)
    simp only [Bool.false_eq_true, if_false]
    exact wpAny_pure ⟨⟨rfl, rfl⟩, fun u m => all u (List.mem_cons_of_mem _ m)⟩
  · rintro ⟨r1, r2⟩ s' ⟨⟨hr, rfl⟩, _⟩
    cases hr
    exact wpAny_pure q
theorem by_value {ks : List Key} {b : Addr} {Q : Bool → Shared → Prop} (hk : isT P w s.heap ks b) (q : ∀ c, Q c s) : wpAny (model P w) A (hashByValue 8 (.ref b)) Q E s := by
  have ty := hk.typeIs
  obtain ⟨o, its, n, ho, _, hd, hi⟩ := hk
  have lv := leaves hi
  unfold hashByValue
  refine wpAny_bind (wpAny_specialOf ty F.slot_tuple_hash.lookup ?_)
  show wpAny _ _ (seqItems? (.ref b) >>= _) _ _ s
  refine wpAny_bind (wpAny_seqItems ho hd (wpAny_bind ?_))
  show wpAny _ _ (forIn its _ _) _ _ s
  rw [← Array.forIn_toList]
  refine wpAny_forIn_list _ (fun more r s' => (r.1 = none ∧ s' = s) ∧ ∀ v ∈ more, ∃ b : Bool, ∀ n, hashByValue n v = pure b) _ ?_ ?_ _ _ ⟨⟨rfl, rfl⟩, fun v m => (lv v m).2⟩
  · rintro v more r s' ⟨⟨hr, rfl⟩, all⟩
    obtain ⟨c, hc⟩ := all v List.mem_cons_self
    rw [hc]
    refine wpAny_bind (wpAny_pure ?_)
    cases c with
    | true =>
      simp only [Bool.not_true, Bool.false_eq_true, if_false]
      exact wpAny_pure ⟨⟨rfl, rfl⟩, fun u m => all u (List.mem_cons_of_mem _ m)⟩
    | false =>
      simp only [Bool.not_false, if_true]
      exact wpAny_pure (wpAny_pure (q _))
  · rintro ⟨r1, r2⟩ s' ⟨⟨hr, rfl⟩, _⟩
    cases hr
    exact wpAny_pure (q _)
/-- a search among tuples shows nothing -/
theorem unseen {ks : List Key} {b : Addr} {ys : List Value} {Q : Bool → Shared → Prop} (hk : isT P w s.heap ks b) (hy : ∀ y ∈ ys, ∃ c ks', y = Value.ref c ∧ isT P w s.heap ks' c) (q : Q false s) :
    wpAny (model P w) A (searchCouldBeSeen (.ref b) ys) Q E s := by
  unfold searchCouldBeSeen
  refine wpAny_bind ?_
  refine wpAny_forIn_list _ (fun more r s' => (r.1 = none ∧ s' = s) ∧ ∀ y ∈ more, ∃ c ks', y = Value.ref c ∧ isT P w s.heap ks' c) _ ?_ ?_ _ _ ⟨⟨rfl, rfl⟩, hy⟩
  · rintro y more r s' ⟨⟨hr, rfl⟩, all⟩
    obtain ⟨c, ks', rfl, hc⟩ := all y List.mem_cons_self
    have next : ∀ y ∈ more, ∃ c ks', y = Value.ref c ∧ isT P w s'.heap ks' c := fun u m => all u (List.mem_cons_of_mem _ m)
    dsimp only
    by_cases same : (b == c || (carriedByValue (.ref b) && carriedByValue (.ref c))) = true
    · exact wp_if_pos same (wpAny_pure ⟨⟨rfl, rfl⟩, next⟩)
    · refine wp_if_neg same (wpAny_bind (wpAny_eqIsQuiet_tuple hk ?_))
      simp only [Bool.not_true, Bool.false_eq_true, if_false]
      refine wpAny_bind (wpAny_eqIsQuiet_tuple hc ?_)
      simp only [Bool.not_true, Bool.false_eq_true, if_false]
      refine wpAny_bind (no_class hk ?_)
      simp only [Bool.false_eq_true, if_false]
      refine wpAny_bind (no_class hc ?_)
      simp only [Bool.false_eq_true, if_false]
      exact wpAny_pure ⟨⟨rfl, rfl⟩, next⟩
  · rintro ⟨r1, r2⟩ s' ⟨⟨hr, rfl⟩, _⟩
    cases hr
    exact wpAny_pure q
end

section
variable (P : Program) (w : World)
/-- tuples of numbers and texts as items -/
def kT : ItK P w (List Key) where
  it := fun h v ks => ∃ b, v = .ref b ∧ isT P w h ks b
  hash := hT P w
  one := by
    rintro h v d d' ⟨b, rfl, x⟩ ⟨b', e, x'⟩
    cases e
    exact x.inj x'
  keep := fun ⟨b, e, x⟩ k => ⟨b, e, isT_up x k⟩
  off := fun ⟨b, e, x⟩ ho hd sb => ⟨b, e, isT_off x ho hd sb⟩
  ex := fun t hs => TabOk t hs ∧ hs.length * 5 < t.mask * 3
  ex0 := fun b => ⟨⟨.nil, rfl, rfl, .inl rfl, fun _ m => (nomatch m), fun i h j hi => by simp at hi⟩, by show 0 * 5 < 7 * 3; decide⟩
  hashes := by
    rintro A E s v d Q hu ⟨b, rfl, x⟩ q
    exact wpAny_pyHash_tuple hu x (q _ (Nat.le_add_right _ _))
end

abbrev pr (m : Nat) (h : Int) (c : Nat) : SetTable.Probe := nth m (runAt m (SetTable.bits h % (m + 1)) (SetTable.bits h)) c
theorem pr_clean (m : Nat) (h : Int) (c : Nat) : (pr m h c).dummy = none := by
  have go : ∀ (n : Nat) (p : SetTable.Probe), p.dummy = none → (nth m p n).dummy = none := by
    intro n
    induction n with
    | zero => exact fun _ e => e
    | succ n ih =>
      intro p e
      refine ih (adv m p) ?_
      unfold adv
      split <;> exact e
  exact go c _ rfl
theorem pr_add (m : Nat) (h : Int) (c q : Nat) : nth m (pr m h c) q = pr m h (c + q) := (nth_add m c _ q).symm

section
variable {P : Program} {w : World} {A : Around} {E : Value → Shared → Prop} {s : Shared} {a : Addr} {L : List (Value × List Key)} {es : Array (Int × Value)} {ep : Nat} {t : SetTable}
theorem entryB (B : SetB (kT P w) s.heap a L es ep t) {i : Nat} {p : Value × List Key} (h : L[i]? = some p) : es[i]? = some (hT P w p.2, p.1) := by
  rw [← Array.getElem?_toList, B.rows, List.getElem?_map, h]
  rfl
theorem seek (B : SetB (kT P w) s.heap a L es ep t) {b : Addr} {ks : List Key} (hb : isT P w s.heap ks b) (hu : A.units < cLine) {K : Nat} (few : K < 10 * SetTable.turns t.mask)
    (free : way t.mask (hT P w ks) K ∉ t.place.toList) (full : ∀ c, c < K → way t.mask (hT P w ks) c ∈ t.place.toList) {Q : SetFound → Shared → Prop}
    (old : ks ∈ L.map Prod.snd → Q (.there none) s) (new : ks ∉ L.map Prod.snd → Q (.free (way t.mask (hT P w ks) K) false) s) :
    ∀ (f c : Nat) (from_ : Option SetTable.Probe), from_.getD (t.probeStart (hT P w ks)) = pr t.mask (hT P w ks) c → c ≤ K → K - c < f →
      (∀ (i : Nat) p, L[i]? = some p → p.2 = ks → ∃ c1, c ≤ c1 ∧ c1 < K ∧ t.place.toList[i]? = some (way t.mask (hT P w ks) c1)) →
      wpAny (model P w) A (setSearchFrom a (.ref b) (hT P w ks) true f from_) Q E s := by
  obtain ⟨o, ho, hex, hd⟩ := B.ob
  obtain ⟨T, room⟩ := B.ex
  have sz : t.place.toList.length = L.length := by
    rw [Array.length_toList, T.sz, List.length_map]
  intro f
  induction f with
  | zero => exact fun c _ _ _ hf _ => absurd hf (Nat.not_lt_zero _)
  | succ f ih =>
    intro c from_ hst hc hf hre
    rw [setSearchFrom_succ]
    refine wpAny_bind (wpAny_setState_of ho hd B.fits ?_)
    dsimp only
    refine wp_if_neg (by
      unfold SetTable.gaveWay
      rw [mask_odd T.mok]
      decide) ?_
    try refine wpAny_bind (wpAny_pure ?_)
    have js : ∀ q, (nth t.mask (pr t.mask (hT P w ks) c) q).j = way t.mask (hT P w ks) (c + q) := fun q => congrArg SetTable.Probe.j (pr_add t.mask (hT P w ks) c q)
    have spec := go_spec t T.ris T.dm (fun i => (es[i]?.map (·.1)).getD 0) (hT P w ks) (10 * SetTable.turns t.mask) (K - c) _ (pr_clean t.mask (hT P w ks) c) (by omega)
      (fun q hq => by rw [js]; exact full (c + q) (by omega)) (by rw [js, show c + (K - c) = K by omega]; exact free)
    have hashes : ∀ (i : Nat) p, L[i]? = some p → (fun i => (es[i]?.map (·.1)).getD 0) i = hT P w p.2 := by
      intro i p hp
      show (es[i]?.map (·.1)).getD 0 = _
      rw [entryB B hp]
      rfl
    rcases spec with ⟨q, i, hq, hi, hh, hno, hpr⟩ | ⟨hno, hpr⟩
    · rw [js] at hi
      rw [js, pr_add] at hpr
      have il : i < L.length := by
        rw [← sz]
        exact (List.getElem?_eq_some_iff.mp hi).1
      obtain ⟨p, hp⟩ : ∃ p, L[i]? = some p := ⟨_, List.getElem?_eq_getElem il⟩
      obtain ⟨b1, e1, hb1⟩ := B.its p (List.mem_of_getElem? hp)
      have ent := entryB B hp
      rw [e1] at ent
      have live : t.slot (way t.mask (hT P w ks) (c + q)) = .live i := slot_live T.ris hi
      have more : wpAny (model P w) A (searchRest a (.ref b) (hT P w ks) true f es t (way t.mask (hT P w ks) (c + q)) i (pr t.mask (hT P w ks) (c + (q + 1)))) Q E s := by
        unfold searchRest
        rw [ent]
        dsimp only
        refine wpAny_bind (wpAny_holding (wpAny_eqBool_tuple hu hb1 hb ?_))
        refine wpAny_bind (wpAny_setState_of ho hd B.fits ?_)
        dsimp only
        by_cases eq : p.2 = ks
        · exact wp_if_pos (by simp [eq]) (wpAny_pure (old (List.mem_map.mpr ⟨p, List.mem_of_getElem? hp, eq⟩)))
        · refine wp_if_neg (by simp [eq]) ?_
          try refine wpAny_bind (wpAny_pure ?_)
          rw [sameMem]
          dsimp only
          simp only [if_true, live, ent]
          refine wpAny_bind (wpAny_isSame_ref_self (wpAny_bind (wpAny_pure ?_)))
          simp only [if_true]
          refine wp_if_neg (by simp [eq]) ?_
          refine ih (c + (q + 1)) _ rfl (by omega) (by omega) fun i0 p0 h0 e0 => ?_
          obtain ⟨c1, a1, a2, a3⟩ := hre i0 p0 h0 e0
          refine ⟨c1, ?_, a2, a3⟩
          have b1 : ¬ c1 < c + q := fun z => hno (c1 - c) i0 (by omega) (by rw [js, show c + (c1 - c) = c1 by omega]; exact a3) ((hashes i0 p0 h0).trans (congrArg (hT P w) e0))
          have b2 : c1 ≠ c + q := fun z => by
            rw [z] at a3
            have l0 := slot_live T.ris a3
            rw [live] at l0
            injection l0 with l0
            rw [← l0, hp] at h0
            exact eq ((congrArg Prod.snd (Option.some.inj h0)).trans e0)
          omega
      have hpr2 : t.probe (fun i => (es[i]?.map (·.1)).getD 0) (hT P w ks) (from_.getD (t.probeStart (hT P w ks))) = some (.candidate (way t.mask (hT P w ks) (c + q)) i (pr t.mask (hT P w ks) (c + (q + 1)))) := by
        rw [hst]
        exact hpr
      rw [hpr2]
      dsimp only
      by_cases hl : t.led = true
      · refine wp_if_neg (by simp [hl]) ?_
        try refine wpAny_bind (wpAny_pure ?_)
        exact more
      · refine wp_if_pos (by simp [hl]) (wpAny_bind (unseen hb (fun y hy => ?_) ?_))
        · obtain ⟨e, he, rfl⟩ := List.mem_map.mp hy
          have he1 : e ∈ es ∧ e.1 = hT P w ks := by simpa using he
          have he2 : e ∈ es.toList := by simpa using he1.1
          rw [B.rows] at he2
          obtain ⟨p2, hp2, rfl⟩ := List.mem_map.mp he2
          obtain ⟨b2, e2, h2⟩ := B.its p2 hp2
          exact ⟨b2, p2.2, e2, h2⟩
        · refine wp_if_neg (by decide) ?_
          try refine wpAny_bind (wpAny_pure ?_)
          exact more
    · rw [js, show c + (K - c) = K by omega] at hpr
      have hpr2 : t.probe (fun i => (es[i]?.map (·.1)).getD 0) (hT P w ks) (from_.getD (t.probeStart (hT P w ks))) = some (.empty (way t.mask (hT P w ks) K) none) := by
        rw [hst]
        exact hpr
      rw [hpr2]
      dsimp only
      refine wpAny_pure (new fun m => ?_)
      obtain ⟨p0, m0, e0⟩ := List.mem_map.mp m
      obtain ⟨i0, l0, g0⟩ := List.getElem_of_mem m0
      have h0 : L[i0]? = some p0 := by rw [List.getElem?_eq_getElem l0, g0]
      obtain ⟨c1, a1, a2, a3⟩ := hre i0 p0 h0 e0
      exact hno (c1 - c) i0 (by omega) (by rw [js, show c + (c1 - c) = c1 by omega]; exact a3) ((hashes i0 p0 h0).trans (congrArg (hT P w) e0))
theorem seek_all (B : SetB (kT P w) s.heap a L es ep t) {b : Addr} {ks : List Key} (hb : isT P w s.heap ks b) (hu : A.units < cLine) {Q : SetFound → Shared → Prop} (old : ks ∈ L.map Prod.snd → Q (.there none) s)
    (new : ∀ K, ks ∉ L.map Prod.snd → way t.mask (hT P w ks) K ∉ t.place.toList → (∀ c, c < K → way t.mask (hT P w ks) c ∈ t.place.toList) → Q (.free (way t.mask (hT P w ks) K) false) s) :
    wpAny (model P w) A (setSearch a (.ref b) (hT P w ks) true) Q E s := by
  obtain ⟨T, room⟩ := B.ex
  obtain ⟨K, k1, k2, k3⟩ := T.first (by omega) (hT P w ks)
  have big : 10 * SetTable.turns t.mask ≤ 1420 := by
    unfold SetTable.turns
    rcases T.mok with e | e | e <;> omega
  unfold setSearch
  refine seek B hb hu k1 k2 k3 old (fun n => new K n k2 k3) 100000 0 none rfl (Nat.zero_le _) (by omega) fun i p hp e => ?_
  have hi : (L.map fun p => hT P w p.2)[i]? = some (hT P w ks) := by
    rw [List.getElem?_map, hp, ← e]
    rfl
  have il : i < t.place.toList.length := by
    rw [Array.length_toList, T.sz, List.length_map]
    exact (List.getElem?_eq_some_iff.mp hp).1
  have hj := List.getElem?_eq_getElem il
  obtain ⟨c, c1, c2⟩ := T.before k2 hi hj
  exact ⟨c, Nat.zero_le _, c1, by rw [hj, c2]⟩
end
end XD

set_option maxRecDepth 100000
set_option maxHeartbeats 4000000
/-! adding tuples -/
namespace XD
open PySem PySem.Spec PyProof.Rows L2

theorem insert_perm {α : Type} (L : List α) (n : Nat) (x : α) : (L.take n ++ x :: L.drop n).Perm (x :: L) := by
  have q : (L.take n ++ x :: L.drop n).Perm (x :: (L.take n ++ L.drop n)) := List.perm_middle
  rwa [List.take_append_drop] at q
/-- entries by an order of their places -/
theorem by_order {α β : Type} {f : α → β} {l : List α} {es : Array β} {order : Array Nat} (e : es.toList = l.map f) (p : order.toList.Perm (List.range l.length)) :
    ∃ l2 : List α, (order.filterMap (es[·]?)).toList = l2.map f ∧ l2.Perm l ∧ l2.map some = order.toList.map fun i => l[i]? := by
  have at_ : ∀ i, es[i]? = (l[i]?).map f := fun i => by rw [← Array.getElem?_toList, e, List.getElem?_map]
  have go : ∀ (is : List Nat), (∀ i ∈ is, i < l.length) → ∃ l2 : List α, is.filterMap (fun i => es[i]?) = l2.map f ∧ l2 = is.filterMap (fun i => l[i]?) ∧ l2.map some = is.map fun i => l[i]? := by
    intro is
    induction is with
    | nil => exact fun _ => ⟨[], rfl, rfl, rfl⟩
    | cons i is ih =>
      intro h
      obtain ⟨l2, e1, e2, e3⟩ := ih fun j m => h j (List.mem_cons_of_mem _ m)
      have hi := List.getElem?_eq_getElem (h i List.mem_cons_self)
      refine ⟨l[i]'(h i List.mem_cons_self) :: l2, ?_, ?_, ?_⟩
      · rw [List.filterMap_cons_some (b := f (l[i]'(h i List.mem_cons_self))) (by rw [at_, hi]; rfl), e1]
        rfl
      · rw [List.filterMap_cons_some hi, ← e2]
      · rw [List.map_cons, List.map_cons, hi, e3]
  obtain ⟨l2, e1, e2, e3⟩ := go order.toList fun i m => List.mem_range.mp (p.mem_iff.mp m)
  refine ⟨l2, by simpa using e1, ?_, e3⟩
  have r : (List.range l.length).filterMap (fun i => l[i]?) = l := by
    have q : ∀ n, n ≤ l.length → (List.range n).filterMap (fun i => l[i]?) = l.take n := by
      intro n
      induction n with
      | zero => exact fun _ => rfl
      | succ n ih =>
        intro hn
        have hi := List.getElem?_eq_getElem (Nat.lt_of_succ_le hn)
        rw [List.range_succ, List.filterMap_append, ih (by omega), List.take_add_one, hi, List.filterMap_cons_some hi]
        rfl
    rw [q _ (Nat.le_refl _), List.take_length]
  have s := p.filterMap fun i => l[i]?
  rw [r, ← e2] at s
  exact s

section
variable {P : Program} {w : World} {A : Around} {E : Value → Shared → Prop} {s : Shared} {a : Addr} {L : List (Value × List Key)} {es : Array (Int × Value)} {ep : Nat} {t : SetTable}
theorem fitsT (T : TabOk t (L.map fun p => hT P w p.2)) (n : es.size = L.length) (r : L.length ≤ t.mask) : t.fits es.size = true := by
  have q := T.sz
  rw [List.length_map] at q
  unfold SetTable.fits SetTable.fill
  rw [T.dm, Bool.and_eq_true, beq_iff_eq, decide_eq_true_eq]
  show t.place.size = es.size ∧ t.place.size + 0 ≤ t.mask
  omega
/-- the table is laid anew, larger -/
theorem relayT {o : Obj} (ho : s.heap.get? a = some o) (hx : o.ExactSet) (hd : o.data = .set es ep t) (rows : es.toList = L.map fun p => (hT P w p.2, p.1)) (T : TabOk t (L.map fun p => hT P w p.2)) (full : L.length ≤ t.mask)
    (nd : (L.map Prod.snd).Nodup) (its : ∀ p ∈ L, (kT P w).it s.heap p.1 p.2) (led : w.params.followText "set-order" = true ∨ t.led = true) (few : L.length < 64) {wanted M : Nat} (w1 : SetTable.sizeAbove wanted - 1 = M) (hM : MaskOk M)
    (w2 : SetTable.sizeAbove wanted ≤ 128) (w3 : L.length * 5 < M * 3) {Q : Unit → Shared → Prop}
    (hQ : ∀ h' L' es' ep' t', Heap.SameBut a s.heap h' → SetB (kT P w) h' a L' es' ep' t' → L'.Perm L → Q () { s with heap := h' }) : wpAny (model P w) A (setRelay a wanted) Q E s := by
  have n : es.size = L.length := by
    have q := congrArg List.length rows
    rwa [Array.length_toList, List.length_map] at q
  obtain ⟨t', order, e, hp, T', m', l', _, _⟩ := relaid_ok t (hs := es.map (·.1)) (wanted := wanted) w1 hM (by rw [Array.size_map, n]; omega)
  rw [Array.size_map, n] at hp
  obtain ⟨L2, r1, r2, r3⟩ := by_order rows hp
  have hash2 : order.toList.map (fun i => (es.map (·.1)).getD i 0) = L2.map fun p => hT P w p.2 := by
    have q := congrArg (List.map fun x : Option (Value × List Key) => (x.map fun p => hT P w p.2).getD 0) r3
    rw [List.map_map, List.map_map] at q
    refine Eq.trans ?_ q.symm
    refine List.map_congr_left fun i m => ?_
    show (es.map (·.1)).getD i 0 = ((L[i]?).map fun p => hT P w p.2).getD 0
    have at_ : es[i]? = (L[i]?).map fun p => (hT P w p.2, p.1) := by rw [← Array.getElem?_toList, rows, List.getElem?_map]
    rw [Array.getD_eq_getD_getElem?, Array.getElem?_map, at_, Option.map_map]
    rfl
  rw [hash2] at T'
  have n2 : (order.filterMap (es[·]?)).size = L.length := by
    rw [← Array.length_toList, r1, List.length_map, r2.length_eq]
  rw [setRelay_eq]
  refine wpAny_bind (wpAny_setState_of ho hd (fitsT T n full) ?_)
  dsimp only
  refine wp_if_neg (by rw [sizeLine_eq]; omega) ?_
  try refine wpAny_bind (wpAny_pure ?_)
  rw [e]
  dsimp only
  refine wpAny_bind ?_
  refine wp_if_neg (by rw [n2, n]; simp) ?_
  try refine wpAny_bind (wpAny_pure ?_)
  refine wpAny_pure ?_
  dsimp only
  refine wpAny_storeSet_of ho hd ?_ (by rw [n2, sizeLine_eq]; omega)
  have sb : Heap.SameBut a s.heap (s.heap.update a (Obj.putSet (order.filterMap (es[·]?)) t')) := .update ..
  refine hQ _ L2 (order.filterMap (es[·]?)) (ep + 1) t' sb ?_ r2
  exact { ob := ⟨_, store_at ho hd, hx, rfl⟩, rows := r1, nd := (r2.map Prod.snd).nodup_iff.mpr nd, its := fun p m => (kT P w).off (its p (r2.mem_iff.mp m)) ho hd sb, ris := T'.ris, led := by rw [l']; exact led,
          fits := fitsT T' (by rw [n2, r2.length_eq]) (by rw [r2.length_eq, m']; omega), few := by rw [r2.length_eq]; exact few, ex := ⟨T', by show (L2.map _).length * 5 < t'.mask * 3; rw [List.length_map, r2.length_eq, m']; exact w3⟩ }

theorem adds_kT : Adds (kT P w) := by
  rintro A E s a L es ep t x ks Q hu B ⟨b, rfl, hb⟩ few hQ
  obtain ⟨o, ho, hex, hd⟩ := B.ob
  obtain ⟨T, room⟩ := B.ex
  rw [List.length_map] at room
  have n := B.size
  show wpAny _ _ (setAddHashed a (.ref b) (hT P w ks)) _ _ _
  unfold setAddHashed
  refine wpAny_holding ?_
  rw [show (100000 : Nat) = 99999 + 1 from rfl, setAddHashedIn_succ]
  refine wpAny_bind (wpAny_setState_of ho hd B.fits ?_)
  dsimp only
  refine wp_if_neg (by simp [byScan, Value.scannable]) ?_
  try refine wpAny_bind (wpAny_pure ?_)
  refine wpAny_bind (seek_all B hb hu (fun m => ?_) fun K m free full => ?_)
  · dsimp only
    exact wpAny_pure (hQ false s.heap L es ep t (.refl a s.heap) B (fun _ => rfl) fun z => absurd m z)
  · dsimp only
    refine wpAny_bind (wpAny_setState_of ho hd B.fits ?_)
    dsimp only
    obtain ⟨q1, q2, q3, q4, q5, q6, q7, q8, q9⟩ := T.put free full
    rw [List.length_map] at q2 q9
    generalize t.put (way t.mask (hT P w ks) K) = pt at q1 q3 q4 q5 q6 q7 q8 q9 ⊢
    obtain ⟨t1, n1⟩ := pt
    dsimp only at q1 q3 q4 q5 q6 q7 q8 q9 ⊢
    rw [← q1] at q2 q3
    clear q1
    have rows1 : (SetTable.insertAt es n1 (hT P w ks, Value.ref b)).toList = (L.take n1 ++ (Value.ref b, ks) :: L.drop n1).map fun p => (hT P w p.2, p.1) := by
      rw [SetTable.toList_insertAt, B.rows, List.map_append, List.map_cons, List.map_take, List.map_drop]
      rfl
    have p1 := insert_perm L n1 (Value.ref b, ks)
    have hs1 : (L.take n1 ++ (Value.ref b, ks) :: L.drop n1).map (fun p => hT P w p.2) = (L.map fun p => hT P w p.2).take n1 ++ hT P w ks :: (L.map fun p => hT P w p.2).drop n1 := by
      rw [List.map_append, List.map_cons, List.map_take, List.map_drop]
    rw [show ((L.map fun p => (kT P w).hash p.2).take n1 ++ hT P w ks :: (L.map fun p => (kT P w).hash p.2).drop n1) = _ from hs1.symm] at q3
    generalize L.take n1 ++ (Value.ref b, ks) :: L.drop n1 = L1 at rows1 p1 q3
    generalize SetTable.insertAt es n1 (hT P w ks, Value.ref b) = es1 at rows1 ⊢
    have len1 : L1.length = L.length + 1 := p1.length_eq
    have size1 : es1.size = L1.length := by
      rw [← Array.length_toList, rows1, List.length_map]
    have nd1 : (L1.map Prod.snd).Nodup := (p1.map Prod.snd).nodup_iff.mpr (List.nodup_cons.mpr ⟨m, B.nd⟩)
    have rest : ∀ t2 : SetTable, TabOk t2 (L1.map fun p => hT P w p.2) → t2.mask = t.mask → t2.led = t.led → t2.fill = L.length + 1 → wpAny (model P w) A (do
          storeSet a es1 t2
          if (!false && t2.tooFull) = true then do
              setRelay a (SetTable.grown (es.size + 1))
              pure true
            else pure true) Q E s := by
      intro t2 T2 m2 l2 f2
      have sb : Heap.SameBut a s.heap (s.heap.update a (Obj.putSet es1 t2)) := .update ..
      have ho1 := store_at (es' := es1) (t' := t2) ho hd
      have led2 : w.params.followText "set-order" = true ∨ t2.led = true := by
        rw [l2]
        exact B.led
      have its1 : ∀ p ∈ L1, (kT P w).it (s.heap.update a (Obj.putSet es1 t2)) p.1 p.2 := by
        intro p hp
        rcases List.mem_cons.mp (p1.mem_iff.mp hp) with e | hp
        · rw [e]
          exact ⟨b, rfl, isT_off hb ho hd sb⟩
        · exact (kT P w).off (B.its p hp) ho hd sb
      refine wpAny_bind (wpAny_storeSet_of ho hd ?_ (by rw [size1, len1, sizeLine_eq]; omega))
      by_cases hf : t2.tooFull = true
      · refine wp_if_pos (by simp [hf]) (wpAny_bind ?_)
        have full2 : t.mask * 3 ≤ (L.length + 1) * 5 := by
          unfold SetTable.tooFull at hf
          rw [decide_eq_true_eq, f2, m2] at hf
          exact hf
        rw [n]
        have two : (t.mask = 7 ∧ L.length = 4) ∨ (t.mask = 31 ∧ L.length = 18) := by
          rcases T.mok with e | e | e
          · left
            rw [e] at full2 room
            exact ⟨e, by omega⟩
          · right
            rw [e] at full2 room
            exact ⟨e, by omega⟩
          · rw [e] at full2 room
            omega
        have go : ∀ M, SetTable.sizeAbove (SetTable.grown (L.length + 1)) - 1 = M → MaskOk M → SetTable.sizeAbove (SetTable.grown (L.length + 1)) ≤ 128 → (L.length + 1) * 5 < M * 3 →
            wpAny (model P w) A (setRelay a (SetTable.grown (L.length + 1))) (fun _ s' => wpAny (model P w) A (pure true) Q E s') E { s with heap := s.heap.update a (Obj.putSet es1 t2) } := by
          intro M g1 g2 g3 g4
          refine relayT (s := { s with heap := s.heap.update a (Obj.putSet es1 t2) }) ho1 ⟨hex.1, hex.2.1, hex.2.2⟩ rfl rows1 T2 (by rw [len1, m2]; rcases two with ⟨e, e2⟩ | ⟨e, e2⟩ <;> omega) nd1 its1 led2 (by rw [len1]; exact few) g1 g2 g3 (by rw [len1]; exact g4) ?_
          intro h2 L2 es2 ep2 t3 sb2 B2 p2
          exact wpAny_pure (hQ true h2 L2 es2 ep2 t3 (sb.trans sb2) B2 (fun z => absurd z m) fun _ => p2.trans p1)
        rcases two with ⟨_, e2⟩ | ⟨_, e2⟩
        · exact go 31 (by rw [e2, size_20]) (.inr (.inl rfl)) (by rw [e2, size_20]; decide) (by omega)
        · exact go 127 (by rw [e2, size_76]) (.inr (.inr rfl)) (by rw [e2, size_76]; decide) (by omega)
      · refine wp_if_neg (by simp [hf]) (wpAny_pure ?_)
        have room2 : (L.length + 1) * 5 < t.mask * 3 := by
          unfold SetTable.tooFull at hf
          rw [decide_eq_true_eq, f2, m2] at hf
          omega
        refine hQ true _ L1 es1 (ep + 1) t2 sb ?_ (fun z => absurd z m) fun _ => p1
        exact { ob := ⟨_, ho1, ⟨hex.1, hex.2.1, hex.2.2⟩, rfl⟩, rows := rows1, nd := nd1, its := its1, ris := T2.ris, led := led2, fits := fitsT T2 size1 (by rw [len1, m2]; omega), few := by rw [len1]; exact few,
                ex := ⟨T2, by show (L1.map _).length * 5 < t2.mask * 3; rw [List.length_map, len1, m2]; exact room2⟩ }
    have off : TabOk { t1 with plain := false } (L1.map fun p => hT P w p.2) := ⟨q3.ris, q3.dm, q3.sz, q3.mok, q3.bd, q3.reach⟩
    by_cases hp : t1.plain = true
    · first
        | (refine wpAny_bind ?_; refine wp_if_pos hp ?_; refine by_value hb fun c => ?_)
        | refine wp_if_pos hp (wpAny_bind (by_value hb fun c => ?_))
      cases c with
      | true => exact rest t1 q3 q4 q5 q9
      | false => exact rest _ off q4 q5 q9
    · first
        | (refine wpAny_bind ?_; refine wp_if_neg hp ?_; refine wpAny_pure ?_)
        | refine wp_if_neg hp (wpAny_bind (wpAny_pure ?_))
      exact rest t1 q3 q4 q5 q9
end
end XD

set_option maxRecDepth 100000
set_option maxHeartbeats 4000000
/-! sorted(set) -/
namespace XD
open PySem PySem.Spec PyProof.Rows L2
open PySem.W (SortsAt dataKind AllAlike EachIs sortVals sortLe sortingHeap list_sort_vals sortVals_each dataKind_some keyToks alike sortVals_length)

section
variable {P : Program} {w : World} {A : Around} {E : Value → Shared → Prop} {s : Shared} {D : Type} {κ : ItK P w D}
theorem eachs_of {α β : Type} {R : α → β → Prop} (f : β → α) : ∀ {l : List β}, (∀ p ∈ l, R (f p) p) → EachIs R (l.map f) l
  | [], _ => .nil
  | p :: l, h => .cons (h p List.mem_cons_self) (eachs_of f fun q m => h q (List.mem_cons_of_mem _ m))
theorem eachs_map {α β γ : Type} {R : α → γ → Prop} (f : β → α) (g : β → γ) : ∀ {l : List β}, (∀ p ∈ l, R (f p) (g p)) → EachIs R (l.map f) (l.map g)
  | [], _ => .nil
  | p :: l, h => .cons (h p List.mem_cons_self) (eachs_map f g fun q m => h q (List.mem_cons_of_mem _ m))
theorem each_eq {α : Type} {D : Type} : ∀ {us : List α} {l : List (α × D)}, EachIs (fun u (p : α × D) => u = p.1) us l → us = l.map Prod.fst
  | _, _, .nil => rfl
  | _, _, .cons e t => by rw [List.map_cons, e, each_eq t]

/-- sorted of a set whose items read as alike data -/
theorem sorted_of_set {a : Addr} {L : List (Value × D)} {es : Array (Int × Value)} {ep : Nat} {t : SetTable} {Q : Value → Shared → Prop} (B : SetB κ s.heap a L es ep t) (calm : A.handled = none) (dat : D → PyData)
    (reads : ∀ p ∈ L, ∃ as, Reads s.heap p.1 (dat p.2) as) (S : XC.Srtbl (L.map fun p => dat p.2)) (hu : A.units + 100 < cLine)
    (hQ : ∀ s' p c (L' : List (Value × D)), (∀ b o, s.heap.get? b = some o → s'.heap.get? b = some o) → s'.gens = s.gens → s'.os = s.os → s.heap.objs.size ≤ p →
      s'.heap.get? p = some (seqObj "list" (L'.map Prod.fst).toArray c) → L'.Perm L → (L'.map fun p => dat p.2).Pairwise (fun a b => XC.dle a b = true) → Q (.ref p) s') :
    wpAny (model P w) A (call (.builtin "sorted") [.ref a]) Q E s := by
  obtain ⟨o, ho, hex, hd⟩ := B.ob
  have n := B.size
  have few := B.few
  refine Calls.call_function_entry kind_sorted plain_sorted entry_sorted (args_sorted1 _) ?_
  unfold Builtin.«sorted»
  refine wpAny_bind (m := checkCount "sorted" 1 1 _) (wpAny_pure ?_)
  refine wpAny_bind (collect_set (A := A.in1) calm ⟨o, ho, hex.1, hd⟩ B.fits (by rw [n]; unfold scanBound; omega) B.ris B.led fun s1 vs k1 hz g1 o1 pm => ?_)
  rw [B.rows, List.map_map] at pm
  obtain ⟨L1, p1, e1⟩ := lift_perm (f := fun p : Value × D => p.1) pm L rfl
  subst e1
  have len1 : (L1.map fun p => p.1).length ≤ sizeLine := by
    rw [List.length_map, p1.length_eq, sizeLine_eq]
    omega
  refine wpAny_bind (wpAny_newList ?_ len1)
  have hoL : (s1.heap.push (seqObj "list" (L1.map fun p => p.1).toArray 0)).get? s1.heap.objs.size = some (seqObj "list" (L1.map fun p => p.1).toArray 0) := Heap.get?_push_size _ rfl
  have k2 : ∀ b o, s.heap.get? b = some o → b ≠ s1.heap.objs.size ∧ (s1.heap.push (seqObj "list" (L1.map fun p => p.1).toArray 0)).get? b = some o := by
    intro b ob e
    have e' := k1 b ob e
    exact ⟨Nat.ne_of_lt (Heap.lt_size e'), Heap.get?_push_of_some _ e'⟩
  have rd : ∀ p ∈ L1, ∃ as, Reads (sortingHeap (s1.heap.push (seqObj "list" (L1.map fun p => p.1).toArray 0)) s1.heap.objs.size (L1.map fun p => p.1)) p.1 (dat p.2) as := by
    intro p m
    obtain ⟨as, r⟩ := reads p (p1.mem_iff.mp m)
    exact ⟨as, PyProof.Rows.Reads.keeps (fun b ob e => PySem.W.sortingHeap_old (k2 b ob e).1 (k2 b ob e).2) r⟩
  have perm1 := p1.map fun p => dat p.2
  have al : AllAlike (L1.map fun p => dat p.2) := fun d m d' m' => S.alike d (perm1.mem_iff.mp m) d' (perm1.mem_iff.mp m')
  have dp : ∀ d ∈ L1.map (fun p => dat p.2), A.in1.in1.units + d.depth < cLine := fun d m => by
    have := S.deep d (perm1.mem_iff.mp m)
    show A.units + 1 + 1 + d.depth < cLine
    omega
  have each := eachs_map (R := fun v d => ∃ as, Reads (sortingHeap (s1.heap.push (seqObj "list" (L1.map fun p => p.1).toArray 0)) s1.heap.objs.size (L1.map fun p => p.1)) v d as) (fun p : Value × D => p.1) (fun p => dat p.2) rd
  have SA : SortsAt P w A.in1.in1 { s1 with heap := sortingHeap (s1.heap.push (seqObj "list" (L1.map fun p => p.1).toArray 0)) s1.heap.objs.size (L1.map fun p => p.1) }
      (dataKind (sortingHeap (s1.heap.push (seqObj "list" (L1.map fun p => p.1).toArray 0)) s1.heap.objs.size (L1.map fun p => p.1)) (L1.map fun p => dat p.2)) (L1.map fun p => p.1) := by
    rcases S.kind with k | k
    · exact XB.sorts_tups each al (fun d m => k d (perm1.mem_iff.mp m)) dp
    · exact SortsAt.data each al (.inr fun d m => k d (perm1.mem_iff.mp m)) dp
  refine wpAny_bind (wpAny_holding (wpAny_call_entry slot_list_sort ⟨_, hoL, rfl⟩ entry_list_sort (list_sort_vals (s := { s1 with heap := s1.heap.push (seqObj "list" (L1.map fun p => p.1).toArray 0) }) hoL SA len1 ⟨_, rfl, ?_⟩) (args_list_sort _)))
  have keys : EachIs (fun v (p : Value × D) => (dataKind (sortingHeap (s1.heap.push (seqObj "list" (L1.map fun p => p.1).toArray 0)) s1.heap.objs.size (L1.map fun p => p.1)) (L1.map fun p => dat p.2)).keyOf v = some (keyToks (dat p.2))) (L1.map fun p => p.1) L1 :=
    eachs_of _ fun p m => by
      obtain ⟨as, r⟩ := rd p m
      exact dataKind_some al (List.mem_map.mpr ⟨p, m, rfl⟩) r
  have out := sortVals_each (κ := dataKind (sortingHeap (s1.heap.push (seqObj "list" (L1.map fun p => p.1).toArray 0)) s1.heap.objs.size (L1.map fun p => p.1)) (L1.map fun p => dat p.2)) (rev := false)
    (fun p : Value × D => keyToks (dat p.2)) (eachs_of (R := fun u (p : Value × D) => u = p.1) (fun p : Value × D => p.1) (l := L1) fun _ _ => rfl) keys
  obtain ⟨c, hc⟩ := sortedHeap_at (vs := L1.map fun p => p.1) (out := (sortVals (dataKind (sortingHeap (s1.heap.push (seqObj "list" (L1.map fun p => p.1).toArray 0)) s1.heap.objs.size (L1.map fun p => p.1)) (L1.map fun p => dat p.2)) false (L1.map fun p => p.1) (L1.map fun p => p.1)).toArray) hoL
  refine wpAny_pure ⟨_, rfl, hQ _ s1.heap.objs.size c (L1.mergeSort (sortLe (PyProof.Rows.listOrd PyProof.Rows.itemOrd) false fun p => keyToks (dat p.2))) (fun b u e => ?_) g1 o1 hz ?_ ((List.mergeSort_perm _ _).trans p1) ?_⟩
  · have e' := k1 b u e
    have lt := Heap.lt_size e'
    show (sortedHeap (s1.heap.push (seqObj "list" (L1.map fun p => p.1).toArray 0)) s1.heap.objs.size _ _).get? b = some u
    rw [sortedHeap_old (Nat.ne_of_lt lt) (by rw [size_push']; exact Nat.lt_succ_of_lt lt)]
    exact Heap.get?_push_of_some _ e'
  · exact hc.trans (congrArg (fun l : List Value => some (seqObj "list" l.toArray c)) (each_eq out))
  · rw [PySem.W.sort_maps (r := sortLe (PyProof.Rows.listOrd PyProof.Rows.itemOrd) false fun p : Value × D => keyToks (dat p.2)) (s := XC.dle) (fun p : Value × D => dat p.2) (l := L1) (fun _ _ _ _ => rfl)]
    exact XC.srt_sorted _
end
end XD

set_option maxRecDepth 100000
set_option maxHeartbeats 4000000
/-! sorted(set(e)), len(set(e)) over the layer -/
namespace XD
open PySem PySem.Spec PyProof.Rows L2

def kD : Key → PyData
  | .inl i => .int i
  | .inr x => .str x
def tD (ks : List Key) : PyData := .tuple (ks.map kD)

section
variable {P : Program} {w : World}
theorem rel_of_is {k : Key} {u : Value} (h : (mixKind P w).is k u = true) : RelV (kV k) u := by
  rcases keyIs_shape h with ⟨i, t, rfl, rfl⟩ | ⟨x, t, rfl, rfl⟩
  · exact ⟨t, rfl⟩
  · exact ⟨t, rfl⟩
theorem is_of_rel {k : Key} {u : Value} (h : RelV (kV k) u) : (mixKind P w).is k u = true ∧ u.scannable = true := by
  cases k with
  | inl i =>
    obtain ⟨t, rfl⟩ := h
    exact ⟨keyIs_int i t, rfl⟩
  | inr x =>
    obtain ⟨t, rfl⟩ := h
    exact ⟨keyIs_str x t, rfl⟩
theorem reads_key {h : Heap} {k : Key} {u : Value} (r : (mixKind P w).is k u = true) : ∃ as, Reads h u (kD k) as := by
  rcases keyIs_shape r with ⟨i, t, rfl, rfl⟩ | ⟨x, t, rfl, rfl⟩
  · exact ⟨_, .int i t⟩
  · exact ⟨_, .str x t⟩
theorem reads_keys {h : Heap} : ∀ {ks : List Key} {us : List Value}, ItemsAre (mixKind P w) ks us → ∃ as, ReadsAll h us (ks.map kD) as
  | _, _, .nil => ⟨_, .nil⟩
  | _, _, .cons r t => by
    obtain ⟨as, a⟩ := reads_key (h := h) r
    obtain ⟨bs, b⟩ := reads_keys (h := h) t
    exact ⟨_, .cons a b⟩
theorem reads_tup {h : Heap} {ks : List Key} {b : Addr} (x : isT P w h ks b) : ∃ as, Reads h (.ref b) (tD ks) as := by
  obtain ⟨o, its, n, ho, hc, hd, hi⟩ := x
  obtain ⟨as, r⟩ := reads_keys (h := h) hi
  exact ⟨_, .tuple ho hc hd r⟩
theorem items_keys : ∀ {ks : List Key} {us : List Value}, Vals (ks.map kV) us → ItemsAre (mixKind P w) ks us
  | [], _, .nil => .nil
  | _ :: _, _, .cons r t => .cons (is_of_rel r).1 (items_keys t)
theorem zip_vals : ∀ {ks : List Key} {us : List Value}, Vals (ks.map kV) us → us = (us.zip ks).map Prod.fst ∧ ks = (us.zip ks).map Prod.snd ∧ ∀ p ∈ us.zip ks, (mixKind P w).is p.2 p.1 = true ∧ p.1.scannable = true
  | [], _, .nil => ⟨rfl, rfl, fun _ m => nomatch m⟩
  | k :: ks, _ :: us, .cons r t => by
    obtain ⟨a, b, c⟩ := zip_vals t
    refine ⟨by rw [List.zip_cons_cons, List.map_cons, ← a], by rw [List.zip_cons_cons, List.map_cons, ← b], fun p m => ?_⟩
    rcases List.mem_cons.mp m with e | m
    · rw [e]
      exact is_of_rel r
    · exact c p m
theorem vals_keys : ∀ {L : List (Value × Key)}, (∀ p ∈ L, (mixKind P w).is p.2 p.1 = true) → Vals ((L.map Prod.snd).map kV) (L.map Prod.fst)
  | [], _ => .nil
  | p :: L, h => .cons (rel_of_is (h p List.mem_cons_self)) (vals_keys fun q m => h q (List.mem_cons_of_mem _ m))
end
def addrOf : Value → Addr
  | .ref b => b
  | _ => 0

section
variable {X : Cx}
/-- behind a call that has laid a new list and drawn an order -/
theorem new_list {pins : List (Addr × Obj)} {σ : L2.St} {H : Hp} {s s' : Shared} {vs : List V} {us : List Value} {p : Addr} {c : Nat} {Q : VK} (I : Inv X pins σ H s) (k : ∀ b o, s.heap.get? b = some o → s'.heap.get? b = some o) (g : s'.gens = s.gens)
    (os : s'.os = s.os) (hp : s.heap.objs.size ≤ p) (at_ : s'.heap.get? p = some (seqObj "list" us.toArray c)) (rv : Vals vs us) (few : vs.length ≤ sizeLine) (q : H p = none → Q (.ref p) (upd H p (.lst vs))) : EP X pins σ Q (.ref p) s' := by
  have hn : H p = none := I.hok.fresh hp
  have J : Inv X pins σ (upd H p (.lst vs)) { s with heap := s'.heap, gens := s'.gens, drawn := s'.drawn, toks := s'.toks } :=
    I.call (ch := []) (Un.laid k hp hn) (I.hok.laid k hp ⟨few, us, c, rv, at_⟩) (by rw [g]; exact I.bare) (fun _ z => nomatch z)
  have e : s' = { s with heap := s'.heap, gens := s'.gens, drawn := s'.drawn, toks := s'.toks } := by
    cases s'
    cases s
    cases os
    rfl
  rw [e]
  exact ⟨.ref p, _, J, rfl, q hn⟩

/-- the items of a list or a tuple -/
def Sq (K : PySem.W.Frag) (H : Hp) (l : Addr) (vs : List V) : Prop := SqL K H l vs ∨ SqT K H l vs
/-- set(e) of numbers or texts, then what follows with the set at a: the raw form -/
theorem set_flat {pins : List (Addr × Obj)} {σ : L2.St} {H : Hp} {s : Shared} {l : Addr} {ks : List Key} {R : Value → Shared → Prop} (hc : X.calm = true) (hu : X.A.units + 100 < cLine) (I : Inv X pins σ H s) (hl : Sq X.K H l (ks.map kV)) (few : ks.length < 64)
    (h : ∀ h' tk a L es ep t, Inv X pins σ H { s with heap := h', toks := tk } → SetB (kS X.prog X.w) h' a L es ep t → (∀ k, k ∈ L.map Prod.snd ↔ k ∈ ks) → R (.ref a) { s with heap := h', toks := tk }) :
    wpAny (model X.prog X.w) X.A (call (.type "set") [.ref l]) R X.xe s := by
  have go : ∀ {its : List Value}, Vals (ks.map kV) its → (its.zip ks).length < 64 ∧ its = (its.zip ks).map Prod.fst ∧ (∀ p ∈ its.zip ks, (kS X.prog X.w).it s.heap p.1 p.2) ∧
      ∀ h' tk L es ep t, SetB (kS X.prog X.w) h' s.heap.objs.size L es ep t → Has (its.zip ks) (its.zip ks).length L → (∀ b o, s.heap.get? b = some o → h'.get? b = some o) → R (.ref s.heap.objs.size) { s with heap := h', toks := tk } := by
    intro its rv
    obtain ⟨z1, z2, z3⟩ := zip_vals (P := X.prog) (w := X.w) rv
    refine ⟨?_, z1, z3, fun h' tk L es ep t B g k => h h' tk _ L es ep t (I.kept k) B fun key => ?_⟩
    · have := congrArg List.length z2
      rw [List.length_map] at this
      omega
    · constructor
      · intro m
        obtain ⟨p, hp, rfl⟩ := List.mem_map.mp m
        have := g.sub p hp
        rw [List.take_length] at this
        rw [z2]
        exact List.mem_map.mpr ⟨p, this, rfl⟩
      · intro m
        rw [z2] at m
        obtain ⟨p, hp, rfl⟩ := List.mem_map.mp m
        exact g.all p (by rw [List.take_length]; exact hp)
  rcases hl with hl | hl
  · obtain ⟨its, rv, pl, _⟩ := I.list hl
    obtain ⟨g1, g2, g3, g4⟩ := go rv
    exact set_of_list adds_kS (I.ok.hd hc) pl.isList g2 g3 g1 (by omega) g4
  · obtain ⟨its, rv, pl, _⟩ := I.tuple hl
    obtain ⟨g1, g2, g3, g4⟩ := go rv
    exact set_of_tuple adds_kS (I.ok.hd hc) pl g2 g3 g1 (by omega) g4

/-- a tuple of such keys -/
def TupK (K : PySem.W.Frag) (H : Hp) (p : Addr × List Key) : Prop := SqT K H p.1 (p.2.map kV)
theorem TupK.is {pins : List (Addr × Obj)} {σ : L2.St} {H : Hp} {s : Shared} {p : Addr × List Key} (I : Inv X pins σ H s) (h : TupK X.K H p) : isT X.prog X.w s.heap p.2 p.1 := by
  obtain ⟨its, r, ⟨o, ho, hc, n, hd⟩, _⟩ := I.tuple h
  exact ⟨o, its.toArray, n, ho, hc, hd, by simpa using items_keys r⟩
theorem vals_refs : ∀ {ps : List (Addr × List Key)} {us : List Value}, Vals (ps.map fun p => V.ref p.1) us → us = ps.map fun p => Value.ref p.1
  | [], _, .nil => rfl
  | p :: ps, _, .cons r t => by
    cases r
    rw [vals_refs t]
    rfl
theorem refs_vals : ∀ (ps : List (Addr × List Key)), Vals (ps.map fun p => V.ref p.1) (ps.map fun p => Value.ref p.1)
  | [] => .nil
  | p :: ps => .cons rfl (refs_vals ps)
theorem set_tups {pins : List (Addr × Obj)} {σ : L2.St} {H : Hp} {s : Shared} {l : Addr} {ps : List (Addr × List Key)} {R : Value → Shared → Prop} (hc : X.calm = true) (hu : X.A.units + 100 < cLine) (I : Inv X pins σ H s) (hl : Sq X.K H l (ps.map fun p => V.ref p.1))
    (hp : ∀ p ∈ ps, TupK X.K H p) (few : ps.length < 64)
    (h : ∀ h' tk a (L : List (Addr × List Key)) es ep t, Inv X pins σ H { s with heap := h', toks := tk } → SetB (kT X.prog X.w) h' a (L.map fun p => (Value.ref p.1, p.2)) es ep t → (∀ p ∈ L, p ∈ ps) → (∀ p ∈ ps, p.2 ∈ L.map Prod.snd) →
      R (.ref a) { s with heap := h', toks := tk }) : wpAny (model X.prog X.w) X.A (call (.type "set") [.ref l]) R X.xe s := by
  have e1 : ps.map (fun p => Value.ref p.1) = (ps.map fun p => (Value.ref p.1, p.2)).map Prod.fst := by
    rw [List.map_map]
    rfl
  have its : ∀ p ∈ ps.map (fun p => (Value.ref p.1, p.2)), (kT X.prog X.w).it s.heap p.1 p.2 := by
    intro p m
    obtain ⟨q, hq, rfl⟩ := List.mem_map.mp m
    exact ⟨q.1, rfl, (hp q hq).is I⟩
  have few1 : (ps.map fun p => (Value.ref p.1, p.2)).length < 64 := by
    rw [List.length_map]
    exact few
  have fin : ∀ h' tk L es ep t, SetB (kT X.prog X.w) h' s.heap.objs.size L es ep t → Has (ps.map fun p => (Value.ref p.1, p.2)) (ps.map fun p => (Value.ref p.1, p.2)).length L → (∀ b o, s.heap.get? b = some o → h'.get? b = some o) →
      R (.ref s.heap.objs.size) { s with heap := h', toks := tk } := by
    intro h' tk L es ep t B g k
    have sub : ∀ p ∈ L, p ∈ ps.map fun p => (Value.ref p.1, p.2) := fun p m => List.mem_of_mem_take (g.sub p m)
    have back : L = (L.map fun p => (addrOf p.1, p.2)).map fun p => (Value.ref p.1, p.2) := by
      rw [List.map_map]
      refine Eq.trans (List.map_id L).symm (List.map_congr_left fun p m => ?_)
      obtain ⟨q, _, rfl⟩ := List.mem_map.mp (sub p m)
      rfl
    rw [back] at B
    refine h h' tk _ _ es ep t (I.kept k) B (fun p m => ?_) fun p m => ?_
    · obtain ⟨q, hq, rfl⟩ := List.mem_map.mp m
      obtain ⟨q1, hq1, rfl⟩ := List.mem_map.mp (sub q hq)
      exact hq1
    · have := g.all (Value.ref p.1, p.2) (by rw [List.take_length]; exact List.mem_map.mpr ⟨p, m, rfl⟩)
      obtain ⟨q, hq, e⟩ := List.mem_map.mp this
      exact List.mem_map.mpr ⟨_, List.mem_map.mpr ⟨q, hq, rfl⟩, e⟩
  rcases hl with hl | hl
  · obtain ⟨us, rv, pl, _⟩ := I.list hl
    exact set_of_list adds_kT (I.ok.hd hc) pl.isList ((vals_refs rv).trans e1) its few1 (by omega) fin
  · obtain ⟨us, rv, pl, _⟩ := I.tuple hl
    exact set_of_tuple adds_kT (I.ok.hd hc) pl ((vals_refs rv).trans e1) its few1 (by omega) fin

/-- sorted(set(e)), e of numbers or texts -/
def tSSf (K : PySem.W.Frag) (te : TE) : TE := fun σ H Q => te σ H fun x H1 => ∃ (l : Addr) (ks : List Key), x = .ref l ∧ Sq K H1 l (ks.map kV) ∧ ks.length < 64 ∧ XC.Srtbl (ks.map kD) ∧
  ∀ (out : List Key) (p : Addr), out.Nodup → (∀ k, k ∈ out ↔ k ∈ ks) → (out.map kD).Pairwise (fun a b => XC.dle a b = true) → H1 p = none → Q (.ref p) (upd H1 p (.lst (out.map kV)))
/-- e of tuples -/
def tSSt (K : PySem.W.Frag) (te : TE) : TE := fun σ H Q => te σ H fun x H1 => ∃ (l : Addr) (ps : List (Addr × List Key)), x = .ref l ∧ Sq K H1 l (ps.map fun p => V.ref p.1) ∧ (∀ p ∈ ps, TupK K H1 p) ∧ ps.length < 64 ∧ XC.Srtbl (ps.map fun p => tD p.2) ∧
  ∀ (out : List (Addr × List Key)) (p : Addr), (∀ q ∈ out, q ∈ ps) → (out.map Prod.snd).Nodup → (∀ q ∈ ps, q.2 ∈ out.map Prod.snd) → (out.map fun q => tD q.2).Pairwise (fun a b => XC.dle a b = true) → H1 p = none → Q (.ref p) (upd H1 p (.lst (out.map fun q => V.ref q.1)))
theorem srtbl_sub {ds ds' : List PyData} (S : XC.Srtbl ds) (h : ∀ d ∈ ds', d ∈ ds) : XC.Srtbl ds' :=
  ⟨fun d m d' m' => S.alike d (h d m) d' (h d' m'), S.kind.imp (fun k d m => k d (h d m)) fun k d m => k d (h d m), fun d m => S.deep d (h d m)⟩

variable {e : Expr} {te : TE} {p p2 q pos : Pos}
theorem pe_ssf (hc : X.calm = true) (hu : X.A.units + 200 < cLine) (g1 : Gl X "sorted") (m1 : X.mg "sorted" = none) (g2 : Gl X "set") (m2 : X.mg "set" = none) (he : PE X e te) (ne : starEach [e] X.env = (false, eval e X.env) :: starEach [] X.env := by rfl) :
    PE X (.Call (.Name "sorted" p) [.Call (.Name "set" p2) [e] [] q] [] pos) (tSSf X.K te) := by
  refine ⟨fun pins s σ H Q I h => ?_⟩
  refine Call_ (ld_blt I g1 m1 (show bootBuiltins "sorted" = some (.builtin "sorted") by decide +kernel) ?_)
  refine PyProof.Rows.callWith_builtin1 (PyProof.Rows.args_cons ?_ rfl) rfl rfl
  refine Call_ (ld_blt I g2 m2 PyProof.Rows.boot_set ?_)
  refine PyProof.Rows.callWith_type1 (PyProof.Rows.args_cons (thn (he.run pins s σ H _ I h) fun v s1 ⟨x, H1, I1, r1, q1⟩ => PyProof.Rows.args_nil ?_) ne) ne rfl
  obtain ⟨l, ks, rfl, hl, few, S, q1⟩ := q1
  cases r1
  refine set_flat hc (by omega) I1 hl few fun h' tk a L es ep t I2 B mem => PyProof.Rows.args_nil ?_
  have sub : ∀ d ∈ L.map (fun p => kD p.2), d ∈ ks.map kD := by
    intro d m
    obtain ⟨p, hp, rfl⟩ := List.mem_map.mp m
    exact List.mem_map.mpr ⟨p.2, (mem p.2).mp (List.mem_map.mpr ⟨p, hp, rfl⟩), rfl⟩
  refine sorted_of_set B (I2.ok.hd hc) kD (fun p m => reads_key (B.its p m).1) (srtbl_sub S sub) (by omega) fun s' p c L' k g o hp at_ pm so => ?_
  have few2 : L'.length < 64 := by
    rw [pm.length_eq]
    exact B.few
  refine new_list I2 k g o hp at_ (vals_keys fun p m => (B.its p (pm.mem_iff.mp m)).1) (by rw [List.length_map, List.length_map, sizeLine_eq]; omega) fun hn => q1 (L'.map Prod.snd) p ((pm.map Prod.snd).nodup_iff.mpr B.nd) (fun k => ?_) ?_ hn
  · rw [(pm.map Prod.snd).mem_iff]
    exact mem k
  · rw [List.map_map]
    exact so
theorem pe_sst (hc : X.calm = true) (hu : X.A.units + 200 < cLine) (g1 : Gl X "sorted") (m1 : X.mg "sorted" = none) (g2 : Gl X "set") (m2 : X.mg "set" = none) (he : PE X e te) (ne : starEach [e] X.env = (false, eval e X.env) :: starEach [] X.env := by rfl) :
    PE X (.Call (.Name "sorted" p) [.Call (.Name "set" p2) [e] [] q] [] pos) (tSSt X.K te) := by
  refine ⟨fun pins s σ H Q I h => ?_⟩
  refine Call_ (ld_blt I g1 m1 (show bootBuiltins "sorted" = some (.builtin "sorted") by decide +kernel) ?_)
  refine PyProof.Rows.callWith_builtin1 (PyProof.Rows.args_cons ?_ rfl) rfl rfl
  refine Call_ (ld_blt I g2 m2 PyProof.Rows.boot_set ?_)
  refine PyProof.Rows.callWith_type1 (PyProof.Rows.args_cons (thn (he.run pins s σ H _ I h) fun v s1 ⟨x, H1, I1, r1, q1⟩ => PyProof.Rows.args_nil ?_) ne) ne rfl
  obtain ⟨l, ps, rfl, hl, ht, few, S, q1⟩ := q1
  cases r1
  refine set_tups hc (by omega) I1 hl ht few fun h' tk a L es ep t I2 B in_ all => PyProof.Rows.args_nil ?_
  have sub : ∀ d ∈ (L.map fun p => (Value.ref p.1, p.2)).map (fun p => tD p.2), d ∈ ps.map fun p => tD p.2 := by
    intro d m
    rw [List.map_map] at m
    obtain ⟨p, hp, rfl⟩ := List.mem_map.mp m
    exact List.mem_map.mpr ⟨p, in_ p hp, rfl⟩
  refine sorted_of_set B (I2.ok.hd hc) tD (fun p m => ?_) (srtbl_sub S sub) (by omega) fun s' p c L' k g o hp at_ pm so => ?_
  · obtain ⟨b, e, x⟩ := B.its p m
    rw [e]
    exact reads_tup x
  · obtain ⟨L2, p2, e2⟩ := lift_perm (f := fun p : Addr × List Key => (Value.ref p.1, p.2)) pm L rfl
    subst e2
    have few2 : L2.length < 64 := by
      rw [p2.length_eq]
      have := B.few
      rwa [List.length_map] at this
    have nd : (L.map Prod.snd).Nodup := by
      have := B.nd
      rw [List.map_map] at this
      exact this
    rw [List.map_map] at at_ so
    refine new_list I2 k g o hp at_ (refs_vals L2) (by rw [List.length_map, sizeLine_eq]; omega) fun hn => q1 L2 p (fun q m => in_ q (p2.mem_iff.mp m)) ((p2.map Prod.snd).nodup_iff.mpr nd) (fun q m => ?_) so hn
    rw [(p2.map Prod.snd).mem_iff]
    exact all q m

/-- len(set(e)) -/
def tLSf (K : PySem.W.Frag) (te : TE) : TE := fun σ H Q => te σ H fun x H1 => ∃ (l : Addr) (ks : List Key), x = .ref l ∧ Sq K H1 l (ks.map kV) ∧ ks.length < 64 ∧
  ∀ out : List Key, out.Nodup → (∀ k, k ∈ out ↔ k ∈ ks) → Q (.int out.length) H1
def tLSt (K : PySem.W.Frag) (te : TE) : TE := fun σ H Q => te σ H fun x H1 => ∃ (l : Addr) (ps : List (Addr × List Key)), x = .ref l ∧ Sq K H1 l (ps.map fun p => V.ref p.1) ∧ (∀ p ∈ ps, TupK K H1 p) ∧ ps.length < 64 ∧
  ∀ out : List (List Key), out.Nodup → (∀ ks, ks ∈ out ↔ ks ∈ ps.map Prod.snd) → Q (.int out.length) H1
theorem pe_lsf (hc : X.calm = true) (hu : X.A.units + 200 < cLine) (g1 : Gl X "len") (m1 : X.mg "len" = none) (g2 : Gl X "set") (m2 : X.mg "set" = none) (he : PE X e te) (ne : starEach [e] X.env = (false, eval e X.env) :: starEach [] X.env := by rfl) :
    PE X (.Call (.Name "len" p) [.Call (.Name "set" p2) [e] [] q] [] pos) (tLSf X.K te) := by
  refine ⟨fun pins s σ H Q I h => ?_⟩
  refine Call_ (ld_blt I g1 m1 PySem.boot_len ?_)
  refine PyProof.Rows.callWith_builtin1 (PyProof.Rows.args_cons ?_ rfl) rfl rfl
  refine Call_ (ld_blt I g2 m2 PyProof.Rows.boot_set ?_)
  refine PyProof.Rows.callWith_type1 (PyProof.Rows.args_cons (thn (he.run pins s σ H _ I h) fun v s1 ⟨x, H1, I1, r1, q1⟩ => PyProof.Rows.args_nil ?_) ne) ne rfl
  obtain ⟨l, ks, rfl, hl, few, q1⟩ := q1
  cases r1
  refine set_flat hc (by omega) I1 hl few fun h' tk a L es ep t I2 B mem => PyProof.Rows.args_nil ?_
  obtain ⟨o, ho, hex, hd⟩ := B.ob
  have n := B.size
  have few2 := B.few
  exact call_len_set ho hex hd B.fits (by rw [n]; omega) ⟨.int (L.map Prod.snd).length, H1, I2.tok _, ⟨_, by rw [n, List.length_map]⟩, q1 _ B.nd mem⟩
theorem pe_lst (hc : X.calm = true) (hu : X.A.units + 200 < cLine) (g1 : Gl X "len") (m1 : X.mg "len" = none) (g2 : Gl X "set") (m2 : X.mg "set" = none) (he : PE X e te) (ne : starEach [e] X.env = (false, eval e X.env) :: starEach [] X.env := by rfl) :
    PE X (.Call (.Name "len" p) [.Call (.Name "set" p2) [e] [] q] [] pos) (tLSt X.K te) := by
  refine ⟨fun pins s σ H Q I h => ?_⟩
  refine Call_ (ld_blt I g1 m1 PySem.boot_len ?_)
  refine PyProof.Rows.callWith_builtin1 (PyProof.Rows.args_cons ?_ rfl) rfl rfl
  refine Call_ (ld_blt I g2 m2 PyProof.Rows.boot_set ?_)
  refine PyProof.Rows.callWith_type1 (PyProof.Rows.args_cons (thn (he.run pins s σ H _ I h) fun v s1 ⟨x, H1, I1, r1, q1⟩ => PyProof.Rows.args_nil ?_) ne) ne rfl
  obtain ⟨l, ps, rfl, hl, ht, few, q1⟩ := q1
  cases r1
  refine set_tups hc (by omega) I1 hl ht few fun h' tk a L es ep t I2 B in_ all => PyProof.Rows.args_nil ?_
  obtain ⟨o, ho, hex, hd⟩ := B.ob
  have n := B.size
  have few2 := B.few
  have nd : (L.map Prod.snd).Nodup := by
    have := B.nd
    rw [List.map_map] at this
    exact this
  refine call_len_set ho hex hd B.fits (by rw [n]; omega) ⟨.int (L.map Prod.snd).length, H1, I2.tok _, ⟨_, by rw [n, List.length_map, List.length_map]⟩, q1 _ nd fun ks => ⟨fun m => ?_, fun m => ?_⟩⟩
  · obtain ⟨p, hp, rfl⟩ := List.mem_map.mp m
    exact List.mem_map.mpr ⟨p, in_ p hp, rfl⟩
  · obtain ⟨p, hp, rfl⟩ := List.mem_map.mp m
    exact all p hp
end
end XD

set_option maxRecDepth 100000
set_option maxHeartbeats 4000000
/-! what a piece of the text computes, on data: states of slots, results, rules one a construct -/
namespace XN
open PySem PySem.Spec PyProof.Rows L2 Evl

/-- a slot: data that stay as they are; a list that no one else holds; the drawn box -/
inductive SV where
  | d (x : PyData)
  | own (xs : List PyData)
  | bx
structure SS where
  e : List (Option SV)
  b : List Int
/-- the list that slot i alone holds -/
def SS.at (s : SS) (i : Nat) : Option (List PyData) := match s.e[i]? with
  | some (some (.own xs)) => some xs
  | _ => none
theorem at_of {s : SS} {i : Nat} {xs : List PyData} (h : s.at i = some xs) : s.e[i]? = some (some (.own xs)) := by
  unfold SS.at at h
  split at h
  · rename_i e
    rw [e, Option.some.inj h]
  · cases h
theorem at_is {s : SS} {i : Nat} {xs : List PyData} (h : s.e[i]? = some (some (.own xs))) : s.at i = some xs := by
  unfold SS.at
  rw [h]
/-- what an expression gives: data, a new list, the list of slot i, the box -/
inductive RV where
  | d (x : PyData)
  | fresh (xs : List PyData)
  | sl (i : Nat)
  | bx
/-- what an operation gives: data at hand, a new list, a new tuple -/
inductive PV where
  | d (x : PyData)
  | l (xs : List PyData)
  | t (xs : List PyData)

mutual
theorem dp_ex {K : PySem.W.Frag} {H H' : Hp} (e : Ex H H') : ∀ (x : PyData) (v : V), Dp K H v x → Dp K H' v x
  | .none, _, h => by cases h; exact .non
  | .bool b, _, h => by cases h; exact .bl b
  | .int i, _, h => by cases h; exact .int i
  | .str x, _, h => by cases h; exact .str x
  | .list ds, _, h => by
    cases h with
    | lst hs ha => exact .lst (ex_l e hs) (dpa_ex e ds _ ha)
  | .tuple ds, _, h => by
    cases h with
    | tup hs ha => exact .tup (ex_t e hs) (dpa_ex e ds _ ha)
  | .dict _, _, h => by cases h
theorem dpa_ex {K : PySem.W.Frag} {H H' : Hp} (e : Ex H H') : ∀ (xs : List PyData) (vs : List V), DpAll K H vs xs → DpAll K H' vs xs
  | [], _, h => by cases h; exact .nil
  | d :: ds, _, h => by
    cases h with
    | cons h1 h2 => exact .cons (dp_ex e d _ h1) (dpa_ex e ds _ h2)
end
theorem dpa_len {K : PySem.W.Frag} {H : Hp} : ∀ {vs : List V} {xs : List PyData}, DpAll K H vs xs → vs.length = xs.length
  | _, _, .nil => rfl
  | _, _, .cons _ t => congrArg Nat.succ (dpa_len t)
theorem dpa_get {K : PySem.W.Frag} {H : Hp} : ∀ {vs : List V} {xs : List PyData} {i : Nat} {x : PyData}, DpAll K H vs xs → xs[i]? = some x → ∃ v, vs[i]? = some v ∧ Dp K H v x
  | _, _, i, x, .nil, h => by simp at h
  | _, _, 0, x, .cons d _, h => by
    have e := Option.some.inj h
    subst e
    exact ⟨_, rfl, d⟩
  | _, _, i + 1, x, .cons _ t, h => dpa_get (i := i) t h
theorem dpa_app {K : PySem.W.Frag} {H : Hp} : ∀ {vs ws : List V} {xs ys : List PyData}, DpAll K H vs xs → DpAll K H ws ys → DpAll K H (vs ++ ws) (xs ++ ys)
  | _, _, _, _, .nil, h => h
  | _, _, _, _, .cons d t, h => .cons d (dpa_app t h)
theorem dpa_take {K : PySem.W.Frag} {H : Hp} : ∀ {vs : List V} {xs : List PyData} (n : Nat), DpAll K H vs xs → DpAll K H (vs.take n) (xs.take n)
  | _, _, 0, _ => .nil
  | _, _, _ + 1, .nil => .nil
  | _, _, n + 1, .cons d t => .cons d (dpa_take n t)
theorem dpa_drop {K : PySem.W.Frag} {H : Hp} : ∀ {vs : List V} {xs : List PyData} (n : Nat), DpAll K H vs xs → DpAll K H (vs.drop n) (xs.drop n)
  | _, _, 0, h => h
  | _, _, _ + 1, .nil => .nil
  | _, _, n + 1, .cons _ t => dpa_drop n t
theorem dpa_set {K : PySem.W.Frag} {H : Hp} {v : V} {x : PyData} (d : Dp K H v x) : ∀ {vs : List V} {xs : List PyData} (n : Nat), DpAll K H vs xs → DpAll K H (vs.set n v) (xs.set n x)
  | _, _, _, .nil => .nil
  | _, _, 0, .cons _ t => .cons d t
  | _, _, n + 1, .cons h t => .cons h (dpa_set d n t)
theorem dpa_ints {K : PySem.W.Frag} {H : Hp} : ∀ (ns : List Int), DpAll K H (ns.map V.int) (ns.map PyData.int)
  | [] => .nil
  | n :: ns => .cons (.int n) (dpa_ints ns)

section
variable (K : PySem.W.Frag) (B : Option Addr)
/-- a slot's value -/
def SlotIs (Fr H0 H : Hp) (u : Option (Option V)) : SV → Prop
  | .d x => ∃ v, u = some (some v) ∧ Dp K H0 v x
  | .own xs => ∃ p vs, u = some (some (.ref p)) ∧ H0 p = none ∧ Fr p = none ∧ B ≠ some p ∧ H p = some (.lst vs) ∧ DpAll K H0 vs xs
  | .bx => ∃ p, B = some p ∧ u = some (some (.ref p))
/-- H0: the data, for good; Fr: what others hold; the box at B -/
structure Rel (Fr H0 : Hp) (s : SS) (σ : L2.St) (H : Hp) : Prop where
  e0 : Ex H0 H
  ef : Ex Fr H
  dj : ∀ p o, Fr p = some o → H0 p = none
  box : ∀ p, B = some p → H0 p = none ∧ Fr p = none ∧ H p = some (.lst (s.b.map V.int))
  len : s.e.length = σ.length
  bb : s.b = [] → B = none
  sl : ∀ (i : Nat) v, s.e[i]? = some (some v) → SlotIs K B Fr H0 H (σ[i]?) v
  ne : ∀ (i j : Nat) xs ys p, i ≠ j → s.e[i]? = some (some (.own xs)) → s.e[j]? = some (some (.own ys)) → σ[i]? = some (some (.ref p)) → σ[j]? = some (some (.ref p)) → False
/-- a result -/
def Res (Fr H0 : Hp) (s : SS) (σ : L2.St) (H : Hp) (v : V) : RV → Prop
  | .d x => Dp K H0 v x
  | .fresh xs => ∃ p vs, v = .ref p ∧ H0 p = none ∧ Fr p = none ∧ B ≠ some p ∧ H p = some (.lst vs) ∧ DpAll K H0 vs xs ∧ ∀ (i : Nat) ys, s.e[i]? = some (some (.own ys)) → σ[i]? ≠ some (some (.ref p))
  | .sl i => σ[i]? = some (some v) ∧ ∃ xs, s.e[i]? = some (some (.own xs))
  | .bx => ∃ p, B = some p ∧ v = .ref p
/-- a result that is held while others are found -/
def Held (H0 : Hp) (σ : L2.St) (v : V) : RV → Prop
  | .d x => Dp K H0 v x
  | .fresh _ => False
  | .sl i => σ[i]? = some (some v)
  | .bx => ∃ p, B = some p ∧ v = .ref p
/-- data as an operation sees them: a list may be one that still changes later -/
def Dq (H0 H : Hp) (v : V) : PyData → Prop
  | .list ds => ∃ a vs, v = .ref a ∧ SqL K H a vs ∧ DpAll K H0 vs ds
  | x => Dp K H0 v x
def Out (H0 H : Hp) (Q : VK) : PV → Prop
  | .d x => ∀ v, Dp K H0 v x → Q v H
  | .l xs => ∀ p vs, H p = none → DpAll K H0 vs xs → Q (.ref p) (upd H p (.lst vs))
  | .t xs => (∀ v, Dp K H0 v (.tuple xs) → Q v H) ∧ ∀ p vs, H p = none → DpAll K H0 vs xs → Q (.ref p) (upd H p (.tup vs))
end
def PV.rv : PV → RV
  | .d x => .d x
  | .l xs => .fresh xs
  | .t xs => .d (.tuple xs)
def RV.hold : RV → RV
  | .fresh xs => .d (.list xs)
  | r => r
/-- the data of a result, as they stand at s -/
def RV.dat (s : SS) : RV → Option PyData
  | .d x => some x
  | .fresh xs => some (.list xs)
  | .sl i => (s.at i).map .list
  | .bx => some (.list (s.b.map .int))
/-- the data for good: a slot's list is given away -/
def RV.take (s : SS) : RV → Option (PyData × SS)
  | .d x => some (x, s)
  | .fresh xs => some (.list xs, s)
  | .sl i => (s.at i).map fun xs => (.list xs, ⟨s.e.set i (some (.d (.list xs))), s.b⟩)
  | .bx => none

section
variable {K : PySem.W.Frag} {B : Option Addr} {Fr H0 H0' H H' : Hp} {s s' : SS} {σ : L2.St} {v : V} {r : RV}
theorem Dq.dp {x : PyData} (e : Ex H0 H) (h : Dq K H0 H v x) : Dp K H v x := by
  cases x with
  | list ds =>
    obtain ⟨a, vs, rfl, h1, h2⟩ := h
    exact .lst h1 (dpa_ex e ds _ h2)
  | _ => exact dp_ex e _ _ h
theorem dq_of {x : PyData} (e : Ex H0 H) (h : Dp K H0 v x) : Dq K H0 H v x := by
  cases x with
  | list ds =>
    cases h with
    | lst h1 h2 => exact ⟨_, _, rfl, ex_l e h1, h2⟩
  | _ => exact h
theorem Held.up (e : Ex H0 H0') (h : Held K B H0 σ v r) : Held K B H0' σ v r := by
  cases r with
  | d x => exact dp_ex e _ _ h
  | fresh xs => exact h
  | sl i => exact h
  | bx => exact h
theorem Held.dq {x : PyData} (R : Rel K B Fr H0 s σ H) (h : Held K B H0 σ v r) (e : r.dat s = some x) : Dq K H0 H v x := by
  cases r with
  | d y =>
    obtain rfl := Option.some.inj e
    exact dq_of R.e0 h
  | fresh xs => exact h.elim
  | sl i =>
    obtain ⟨xs, he, ex⟩ := Option.map_eq_some_iff.mp (show (s.at i).map PyData.list = some x from e)
    subst ex
    obtain ⟨p, vs, hp, _, _, _, hh, hd⟩ := R.sl i _ (at_of he)
    have hv : σ[i]? = some (some v) := h
    rw [hv] at hp
    cases hp
    exact ⟨p, vs, rfl, sq_of hh, hd⟩
  | bx =>
    obtain rfl := Option.some.inj e
    obtain ⟨p, hp, rfl⟩ := h
    obtain ⟨_, _, hh⟩ := R.box p hp
    exact ⟨p, _, rfl, sq_of hh, dpa_ints _⟩
theorem ex_upd {p : Addr} {o : HO} (h0 : H0 p = none) (e : Ex H0 H) (h : H p = some o) : Ex (upd H0 p o) H := fun a u ha => by
  by_cases z : a = p
  · subst z
    rw [upd_same] at ha
    cases ha
    exact h
  · rw [upd_ne z] at ha
    exact e a u ha
theorem SlotIs.up {u : Option (Option V)} {w : SV} (e : Ex H0 H0') (k : ∀ p vs, H0 p = none → Fr p = none → B ≠ some p → u = some (some (.ref p)) → H p = some (.lst vs) → H0' p = none ∧ H' p = some (.lst vs)) (h : SlotIs K B Fr H0 H u w) : SlotIs K B Fr H0' H' u w := by
  cases w with
  | d x =>
    obtain ⟨v, hu, hd⟩ := h
    exact ⟨v, hu, dp_ex e _ _ hd⟩
  | own xs =>
    obtain ⟨p, vs, hu, h1, h2, h3, h4, h5⟩ := h
    obtain ⟨k1, k2⟩ := k p vs h1 h2 h3 hu h4
    exact ⟨p, vs, hu, k1, h2, h3, k2, dpa_ex e _ _ h5⟩
  | bx => exact h
/-- a list that is no slot's is frozen -/
theorem Rel.freeze {p : Addr} {o : HO} (R : Rel K B Fr H0 s σ H) (h0 : H0 p = none) (hf : Fr p = none) (hb : B ≠ some p) (hh : H p = some o) (hs : ∀ (i : Nat) ys, s.e[i]? = some (some (.own ys)) → σ[i]? ≠ some (some (.ref p))) : Rel K B Fr (upd H0 p o) s σ H where
  e0 := ex_upd h0 R.e0 hh
  ef := R.ef
  dj := fun q u hq => by
    have : q ≠ p := fun z => by rw [z, hf] at hq; cases hq
    rw [upd_ne this]
    exact R.dj q u hq
  box := fun q hq => by
    have : q ≠ p := fun z => hb (by rw [hq, z])
    obtain ⟨b1, b2, b3⟩ := R.box q hq
    exact ⟨by rw [upd_ne this]; exact b1, b2, b3⟩
  len := R.len
  bb := R.bb
  sl := fun i w hi => by
    cases w with
    | own xs =>
      obtain ⟨q, vs, hu, h1, h2, h3, h4, h5⟩ := R.sl i _ hi
      have : q ≠ p := fun z => hs i xs hi (by rw [hu, z])
      exact ⟨q, vs, hu, by rw [upd_ne this]; exact h1, h2, h3, h4, dpa_ex (Ex.new h0) _ _ h5⟩
    | d x =>
      obtain ⟨v, hv, hd⟩ := R.sl i _ hi
      exact ⟨v, hv, dp_ex (Ex.new h0) _ _ hd⟩
    | bx => exact R.sl i _ hi
  ne := R.ne
theorem Rel.none_of {p : Addr} (R : Rel K B Fr H0 s σ H) (h : H p = none) : H0 p = none ∧ Fr p = none ∧ B ≠ some p ∧ ∀ (i : Nat) ys, s.e[i]? = some (some (.own ys)) → σ[i]? ≠ some (some (.ref p)) := by
  refine ⟨fresh_back R.e0 h, fresh_back R.ef h, fun z => ?_, fun i ys hi z => ?_⟩
  · rw [(R.box p z).2.2] at h
    cases h
  · obtain ⟨q, vs, hu, _, _, _, hh, _⟩ := R.sl i _ hi
    rw [z] at hu
    cases hu
    rw [hh] at h
    cases h
/-- the heap changes where neither data nor others' things nor slots' lists stand -/
theorem Rel.heap (R : Rel K B Fr H0 s σ H) (e0 : Ex H0 H') (ef : Ex Fr H') (kb : ∀ p, B = some p → H' p = H p) (ks : ∀ (i : Nat) ys p, s.e[i]? = some (some (.own ys)) → σ[i]? = some (some (.ref p)) → H' p = H p) : Rel K B Fr H0 s σ H' where
  e0 := e0
  ef := ef
  dj := R.dj
  box := fun p hp => by
    obtain ⟨a, b, c⟩ := R.box p hp
    exact ⟨a, b, (kb p hp).trans c⟩
  len := R.len
  bb := R.bb
  sl := fun i w hi => by
    cases w with
    | own xs =>
      obtain ⟨q, vs, hu, h1, h2, h3, h4, h5⟩ := R.sl i _ hi
      exact ⟨q, vs, hu, h1, h2, h3, (ks i xs q hi hu).trans h4, h5⟩
    | d x => exact R.sl i _ hi
    | bx => exact R.sl i _ hi
  ne := R.ne
theorem Rel.new {p : Addr} {o : HO} (R : Rel K B Fr H0 s σ H) (h : H p = none) : Rel K B Fr H0 s σ (upd H p o) := by
  obtain ⟨_, _, hb, hs⟩ := R.none_of h
  refine R.heap (R.e0.trans (Ex.new h)) (R.ef.trans (Ex.new h)) (fun q hq => upd_ne fun z => hb (by rw [hq, z])) fun i ys q hi hq => upd_ne fun z => hs i ys hi (by rw [hq, z])
theorem Res.hold (R : Rel K B Fr H0 s σ H) (h : Res K B Fr H0 s σ H v r) : ∃ H0', Ex H0 H0' ∧ Rel K B Fr H0' s σ H ∧ Held K B H0' σ v r.hold := by
  cases r with
  | d x => exact ⟨H0, Ex.refl _, R, h⟩
  | fresh xs =>
    obtain ⟨p, vs, rfl, h1, h2, h3, h4, h5, h6⟩ := h
    exact ⟨_, Ex.new h1, R.freeze h1 h2 h3 h4 h6, Dp.lst (sq_of upd_same) (dpa_ex (Ex.new h1) _ _ h5)⟩
  | sl i => exact ⟨H0, Ex.refl _, R, h.1⟩
  | bx => exact ⟨H0, Ex.refl _, R, h⟩
/-- a claim about a slot is dropped, or made weaker -/
theorem Rel.weak {e : List (Option SV)} (R : Rel K B Fr H0 s σ H) (hl : e.length = s.e.length) (h : ∀ (i : Nat) w, e[i]? = some (some w) → SlotIs K B Fr H0 H (σ[i]?) w ∧ ∀ xs, w = .own xs → s.e[i]? = some (some (.own xs))) : Rel K B Fr H0 ⟨e, s.b⟩ σ H where
  e0 := R.e0
  ef := R.ef
  dj := R.dj
  box := R.box
  len := hl.trans R.len
  bb := R.bb
  sl := fun i w hi => (h i w hi).1
  ne := fun i j xs ys p n hi hj => R.ne i j xs ys p n ((h i _ hi).2 xs rfl) ((h j _ hj).2 ys rfl)
/-- slot i's list is given away -/
theorem Rel.give {i : Nat} {xs : List PyData} {v : V} (R : Rel K B Fr H0 s σ H) (hi : s.e[i]? = some (some (.own xs))) (hv : σ[i]? = some (some v)) : ∃ H0', Ex H0 H0' ∧ Rel K B Fr H0' ⟨s.e.set i (some (.d (.list xs))), s.b⟩ σ H ∧ Dp K H0' v (.list xs) := by
  obtain ⟨p, vs, hu, h1, h2, h3, h4, h5⟩ := R.sl i _ hi
  rw [hv] at hu
  cases hu
  have il : i < s.e.length := (List.getElem?_eq_some_iff.mp hi).1
  have R1 : Rel K B Fr H0 ⟨s.e.set i none, s.b⟩ σ H := R.weak (List.length_set ..) fun j w hj => by
    by_cases z : j = i
    · subst z
      rw [List.getElem?_set_self il] at hj
      cases hj
    · rw [List.getElem?_set_ne (fun q => z q.symm)] at hj
      exact ⟨R.sl j w hj, fun ys e => by rw [hj, e]⟩
  have R2 := R1.freeze (p := p) h1 h2 h3 h4 fun j ys hj hq => by
    by_cases z : j = i
    · subst z
      rw [show (SS.mk (s.e.set j none) s.b).e = s.e.set j none from rfl, List.getElem?_set_self il] at hj
      cases hj
    · rw [show (SS.mk (s.e.set i none) s.b).e = s.e.set i none from rfl, List.getElem?_set_ne (fun q => z q.symm)] at hj
      exact R.ne j i ys xs p z hj hi hq hv
  have D : Dp K (upd H0 p (.lst vs)) (.ref p) (.list xs) := Dp.lst (sq_of upd_same) (dpa_ex (Ex.new h1) _ _ h5)
  refine ⟨_, Ex.new h1, ?_, D⟩
  have hl : (s.e.set i (some (.d (.list xs)))).length = (s.e.set i none).length := by rw [List.length_set, List.length_set]
  refine R2.weak (s := ⟨s.e.set i none, s.b⟩) hl fun j w hj => ?_
  by_cases z : j = i
  · subst z
    rw [List.getElem?_set_self il] at hj
    cases hj
    exact ⟨⟨_, hv, D⟩, fun _ e => nomatch e⟩
  · rw [List.getElem?_set_ne (fun q => z q.symm)] at hj
    have hj2 : (s.e.set i none)[j]? = some (some w) := by
      rw [List.getElem?_set_ne (fun q => z q.symm)]
      exact hj
    exact ⟨R2.sl j w hj2, fun ys e => by
      show (s.e.set i none)[j]? = _
      rw [hj2, e]⟩
theorem Held.take {x : PyData} (R : Rel K B Fr H0 s σ H) (h : Held K B H0 σ v r) (e : r.take s = some (x, s')) : ∃ H0', Ex H0 H0' ∧ Rel K B Fr H0' s' σ H ∧ Dp K H0' v x := by
  cases r with
  | d y =>
    obtain ⟨rfl, rfl⟩ := Prod.mk.inj (Option.some.inj e)
    exact ⟨H0, Ex.refl _, R, h⟩
  | fresh xs => exact h.elim
  | sl i =>
    obtain ⟨xs, he, ex⟩ := Option.map_eq_some_iff.mp e
    obtain ⟨rfl, rfl⟩ := Prod.mk.inj ex
    exact R.give (at_of he) h
  | bx => cases e
theorem out_of {z : PV} {Q : VK} (R : Rel K B Fr H0 s σ H) (k : ∀ v H' H0', Ex H0 H0' → Rel K B Fr H0' s σ H' → Res K B Fr H0' s σ H' v z.rv → Q v H') : Out K H0 H Q z := by
  cases z with
  | d x => exact fun v hv => k v H H0 (Ex.refl _) R hv
  | l xs =>
    intro p vs hp hd
    obtain ⟨a, b, c, d⟩ := R.none_of hp
    exact k _ _ H0 (Ex.refl _) (R.new hp) ⟨p, vs, rfl, a, b, c, upd_same, hd, d⟩
  | t xs =>
    refine ⟨fun v hv => k v H H0 (Ex.refl _) R hv, fun p vs hp hd => ?_⟩
    obtain ⟨a, b, c, d⟩ := R.none_of hp
    exact k _ _ _ (Ex.new a) ((R.new hp).freeze a b c upd_same d) (Dp.tup (st_of upd_same) (dpa_ex (Ex.new a) _ _ hd))

/-- slot i takes a result -/
def SS.put (s : SS) (i : Nat) : RV → Option SS
  | .d x => some ⟨s.e.set i (some (.d x)), s.b⟩
  | .fresh xs => some ⟨s.e.set i (some (.own xs)), s.b⟩
  | .sl j => if j = i then none else (s.at j).map fun xs => ⟨(s.e.set j (some (.d (.list xs)))).set i (some (.d (.list xs))), s.b⟩
  | .bx => some ⟨s.e.set i (some .bx), s.b⟩
theorem Rel.putW {i : Nat} {w : SV} (R : Rel K B Fr H0 s σ H) (il : i < σ.length) (hw : SlotIs K B Fr H0 H (some (some v)) w) (hn : ∀ xs, w = .own xs → ∀ (j : Nat) ys, s.e[j]? = some (some (.own ys)) → σ[j]? ≠ some (some v)) : Rel K B Fr H0 ⟨s.e.set i (some w), s.b⟩ (σ.set i (some v)) H where
  e0 := R.e0
  ef := R.ef
  dj := R.dj
  box := R.box
  bb := R.bb
  len := by
    show (s.e.set i (some w)).length = _
    rw [List.length_set, List.length_set]
    exact R.len
  sl := fun j u hj => by
    have hj : (s.e.set i (some w))[j]? = some (some u) := hj
    by_cases z : j = i
    · subst z
      rw [List.getElem?_set_self (by rw [R.len]; exact il)] at hj
      cases hj
      rw [List.getElem?_set_self il]
      exact hw
    · rw [List.getElem?_set_ne (fun q => z q.symm)] at hj ⊢
      exact R.sl j u hj
  ne := fun j k xs ys p n gj gk pj pk => by
    have hj : (s.e.set i (some w))[j]? = some (some (.own xs)) := gj
    have hk : (s.e.set i (some w))[k]? = some (some (.own ys)) := gk
    clear gj gk
    have il' : i < s.e.length := by rw [R.len]; exact il
    by_cases z : i = j
    · rw [z, List.getElem?_set_self (by omega)] at hj pj
      rw [z, List.getElem?_set_ne n] at hk pk
      cases hj
      cases pj
      exact hn xs rfl k ys hk pk
    · rw [List.getElem?_set_ne z] at hj pj
      by_cases y : i = k
      · rw [y, List.getElem?_set_self (by omega)] at hk pk
        cases hk
        cases pk
        exact hn ys rfl j xs hj pj
      · rw [List.getElem?_set_ne y] at hk pk
        exact R.ne j k xs ys p n hj hk pj pk
theorem Rel.put {i : Nat} (R : Rel K B Fr H0 s σ H) (il : i < σ.length) (h : Res K B Fr H0 s σ H v r) (e : s.put i r = some s') : ∃ H0', Ex H0 H0' ∧ Rel K B Fr H0' s' (σ.set i (some v)) H := by
  cases r with
  | d x =>
    obtain rfl := Option.some.inj e
    exact ⟨H0, Ex.refl _, R.putW il ⟨v, rfl, h⟩ fun _ z => nomatch z⟩
  | fresh xs =>
    obtain rfl := Option.some.inj e
    obtain ⟨p, vs, rfl, h1, h2, h3, h4, h5, h6⟩ := h
    exact ⟨H0, Ex.refl _, R.putW il ⟨p, vs, rfl, h1, h2, h3, h4, h5⟩ fun _ _ => h6⟩
  | sl j =>
    have e : (if j = i then none else (s.at j).map fun xs => (⟨(s.e.set j (some (.d (.list xs)))).set i (some (.d (.list xs))), s.b⟩ : SS)) = some s' := e
    by_cases z : j = i
    · rw [if_pos z] at e
      cases e
    · rw [if_neg z] at e
      obtain ⟨xs, he, ex⟩ := Option.map_eq_some_iff.mp e
      subst ex
      obtain ⟨H1, e1, R1, d1⟩ := R.give (at_of he) h.1
      exact ⟨H1, e1, R1.putW il ⟨v, rfl, d1⟩ fun _ z => nomatch z⟩
  | bx =>
    obtain rfl := Option.some.inj e
    obtain ⟨p, hp, rfl⟩ := h
    exact ⟨H0, Ex.refl _, R.putW il ⟨p, hp, rfl⟩ fun _ z => nomatch z⟩
end
end XN

set_option maxRecDepth 100000
set_option maxHeartbeats 4000000
/-! judgements: what a piece computes on data; expressions -/
namespace XN
open PySem PySem.Spec PyProof.Rows L2 Evl

abbrev DF := SS → Option (RV × SS)
abbrev DT := SS → Option (Bool × SS)
abbrev DA := SS → Option (List RV × SS)
section
variable (K : PySem.W.Frag)
def DenE (te : TE) (f : DF) : Prop := ∀ (B : Option Addr) (Fr H0 : Hp) (s : SS) (σ : L2.St) (H : Hp) (r : RV) (s' : SS), Rel K B Fr H0 s σ H → f s = some (r, s') → ∀ Q : VK,
  (∀ v H' H0', Ex H0 H0' → Rel K B Fr H0' s' σ H' → Res K B Fr H0' s' σ H' v r → Q v H') → te σ H Q
def DenT (tt : TT) (f : DT) : Prop := ∀ (B : Option Addr) (Fr H0 : Hp) (s : SS) (σ : L2.St) (H : Hp) (b : Bool) (s' : SS), Rel K B Fr H0 s σ H → f s = some (b, s') → ∀ Q : Bool → Hp → Prop,
  (∀ H' H0', Ex H0 H0' → Rel K B Fr H0' s' σ H' → Q b H') → tt σ H Q
inductive HeldAll (B : Option Addr) (H0 : Hp) (σ : L2.St) : List V → List RV → Prop
  | nil : HeldAll B H0 σ [] []
  | cons {v : V} {vs : List V} {r : RV} {rs : List RV} : Held K B H0 σ v r → HeldAll B H0 σ vs rs → HeldAll B H0 σ (v :: vs) (r :: rs)
inductive DqAll (H0 H : Hp) : List V → List PyData → Prop
  | nil : DqAll H0 H [] []
  | cons {v : V} {vs : List V} {x : PyData} {xs : List PyData} : Dq K H0 H v x → DqAll H0 H vs xs → DqAll H0 H (v :: vs) (x :: xs)
def DenA (ta : TA) (f : DA) : Prop := ∀ (B : Option Addr) (Fr H0 : Hp) (s : SS) (σ : L2.St) (H : Hp) (rs : List RV) (s' : SS), Rel K B Fr H0 s σ H → f s = some (rs, s') → ∀ Q : List V → Hp → Prop,
  (∀ vs H' H0', Ex H0 H0' → Rel K B Fr H0' s' σ H' → HeldAll K B H0' σ vs rs → Q vs H') → ta σ H Q
/-- operations on values -/
def Den1 (r : V → Hp → VK → Prop) (op : PyData → Option PV) : Prop := ∀ (H0 H : Hp) (x : V) (dx : PyData) (z : PV) (Q : VK), Ex H0 H → Dq K H0 H x dx → op dx = some z → Out K H0 H Q z → r x H Q
def Den2 (r : R2) (op : PyData → PyData → Option PV) : Prop := ∀ (H0 H : Hp) (x y : V) (dx dy : PyData) (z : PV) (Q : VK), Ex H0 H → Dq K H0 H x dx → Dq K H0 H y dy → op dx dy = some z → Out K H0 H Q z → r x y H Q
def DenB (r : List V → Hp → VK → Prop) (op : List PyData → Option PV) : Prop := ∀ (H0 H : Hp) (vs : List V) (ds : List PyData) (z : PV) (Q : VK), Ex H0 H → DqAll K H0 H vs ds → op ds = some z → Out K H0 H Q z → r vs H Q
end
structure DE (X : Cx) (e : Expr) (te : PySem.W.Frag → TE) (f : DF) : Prop where
  pe : PE X e (te X.K)
  den : DenE X.K (te X.K) f
structure DTe (X : Cx) (e : Expr) (tt : PySem.W.Frag → TT) (f : DT) : Prop where
  pt : PT X e (tt X.K)
  den : DenT X.K (tt X.K) f
structure DAs (X : Cx) (es : List Expr) (ta : PySem.W.Frag → TA) (f : DA) : Prop where
  pa : PA X es (ta X.K)
  den : DenA X.K (ta X.K) f
  len : ∀ s p, f s = some p → p.1.length = es.length

/-! ### the functions -/
def dV (i : Nat) : DF := fun s => match s.e[i]? with
  | some (some (.d x)) => some (.d x, s)
  | some (some (.own _)) => some (.sl i, s)
  | some (some .bx) => some (.bx, s)
  | _ => none
def dC (x : PyData) : DF := fun s => some (.d x, s)
def dOp (op : PyData → PyData → Option PV) (f g : DF) : DF := fun s => (f s).bind fun p => (g p.2).bind fun q => (p.1.hold.dat q.2).bind fun x => (q.1.hold.dat q.2).bind fun y => (op x y).map fun z => (z.rv, q.2)
def dUn (op : PyData → Option PV) (f : DF) : DF := fun s => (f s).bind fun p => (p.1.hold.dat p.2).bind fun x => (op x).map fun z => (z.rv, p.2)
def dTest (f : DF) : DT := fun s => (f s).bind fun p => match p.1 with
  | .d (.bool b) => some (b, p.2)
  | _ => none
def dNot (f : DT) : DT := fun s => (f s).map fun p => (!p.1, p.2)
def dAnd (f g : DT) : DT := fun s => (f s).bind fun p => if p.1 = true then g p.2 else some (false, p.2)
def dOr (f g : DT) : DT := fun s => (f s).bind fun p => if p.1 = true then some (true, p.2) else g p.2
def dVal (f : DT) : DF := fun s => (f s).map fun p => (.d (.bool p.1), p.2)
def dIf (c : DT) (f g : DF) : DF := fun s => (c s).bind fun p => if p.1 = true then f p.2 else g p.2
def dNil : DA := fun s => some ([], s)
def dCons (f : DF) (g : DA) : DA := fun s => (f s).bind fun p => (g p.2).map fun q => (p.1.hold :: q.1, q.2)
def takeAll : List RV → SS → Option (List PyData × SS)
  | [], s => some ([], s)
  | r :: rs, s => (r.take s).bind fun p => (takeAll rs p.2).map fun q => (p.1 :: q.1, q.2)
def datAll (s : SS) : List RV → Option (List PyData)
  | [] => some []
  | r :: rs => (r.dat s).bind fun x => (datAll s rs).map fun xs => x :: xs
def dTup (f : DA) : DF := fun s => (f s).bind fun p => (takeAll p.1 p.2).bind fun q => if q.1.length ≤ 100000 then some (.d (.tuple q.1), q.2) else none
def dLst (f : DA) : DF := fun s => (f s).bind fun p => (takeAll p.1 p.2).bind fun q => if q.1.length ≤ 100000 then some (.fresh q.1, q.2) else none
def dCB (op : List PyData → Option PV) (f : DA) : DF := fun s => (f s).bind fun p => (datAll p.2 p.1).bind fun xs => (op xs).map fun z => (z.rv, p.2)

section
variable {K : PySem.W.Frag} {B : Option Addr} {Fr H0 H0' H H' : Hp} {s s' : SS} {σ : L2.St} {v : V} {r : RV} {ta tb te : TE} {tt tu : TT} {tas : TA} {f g : DF} {c c' : DT} {fa : DA}
theorem bind_some {α β : Type} {o : Option α} {k : α → Option β} {b : β} (h : o.bind k = some b) : ∃ a, o = some a ∧ k a = some b := Option.bind_eq_some_iff.mp h
theorem map_some {α β : Type} {o : Option α} {k : α → β} {b : β} (h : o.map k = some b) : ∃ a, o = some a ∧ k a = b := Option.map_eq_some_iff.mp h
theorem HeldAll.up (e : Ex H0 H0') : ∀ {vs : List V} {rs : List RV}, HeldAll K B H0 σ vs rs → HeldAll K B H0' σ vs rs
  | _, _, .nil => .nil
  | _, _, .cons h t => .cons (h.up e) (HeldAll.up e t)
theorem HeldAll.dat (R : Rel K B Fr H0 s σ H) : ∀ {vs : List V} {rs : List RV} {xs : List PyData}, HeldAll K B H0 σ vs rs → datAll s rs = some xs → DqAll K H0 H vs xs
  | _, _, _, .nil, e => by
    obtain rfl := Option.some.inj e
    exact .nil
  | _, _, _, .cons h t, e => by
    obtain ⟨x, e1, e2⟩ := bind_some e
    obtain ⟨xs, e3, rfl⟩ := map_some e2
    exact .cons (h.dq R e1) (HeldAll.dat R t e3)
theorem HeldAll.take : ∀ {vs : List V} {rs : List RV} {xs : List PyData} {s s' : SS} {H0 : Hp}, Rel K B Fr H0 s σ H → HeldAll K B H0 σ vs rs → takeAll rs s = some (xs, s') → ∃ H0', Ex H0 H0' ∧ Rel K B Fr H0' s' σ H ∧ DpAll K H0' vs xs
  | _, _, _, _, _, _, R, .nil, e => by
    obtain ⟨rfl, rfl⟩ := Prod.mk.inj (Option.some.inj e)
    exact ⟨_, Ex.refl _, R, .nil⟩
  | _, _, _, _, _, _, R, .cons h t, e => by
    obtain ⟨⟨x, s1⟩, e1, e2⟩ := bind_some e
    obtain ⟨⟨xs, s2⟩, e3, e4⟩ := map_some e2
    obtain ⟨rfl, rfl⟩ := Prod.mk.inj e4
    obtain ⟨H1, x1, R1, d1⟩ := h.take R e1
    obtain ⟨H2, x2, R2, d2⟩ := HeldAll.take R1 (t.up x1) e3
    exact ⟨H2, x1.trans x2, R2, .cons (dp_ex x2 _ _ d1) d2⟩

theorem den_v (i : Nat) : DenE K (tVar i) (dV i) := by
  intro B Fr H0 s σ H r s' R e Q k
  unfold dV at e
  split at e
  · rename_i x hx
    obtain ⟨rfl, rfl⟩ := Prod.mk.inj (Option.some.inj e)
    obtain ⟨v, hv, hd⟩ := R.sl i _ hx
    exact ⟨v, hv, k v H H0 (Ex.refl _) R hd⟩
  · rename_i xs hx
    obtain ⟨rfl, rfl⟩ := Prod.mk.inj (Option.some.inj e)
    obtain ⟨p, vs, hv, _⟩ := R.sl i _ hx
    exact ⟨_, hv, k _ H H0 (Ex.refl _) R ⟨hv, xs, hx⟩⟩
  · rename_i hx
    obtain ⟨rfl, rfl⟩ := Prod.mk.inj (Option.some.inj e)
    obtain ⟨p, hp, hv⟩ := R.sl i _ hx
    exact ⟨_, hv, k _ H H0 (Ex.refl _) R ⟨p, hp, rfl⟩⟩
  · cases e
theorem den_c {x : PyData} {w : V} (h : ∀ H : Hp, Dp K H w x) : DenE K (tC w) (dC x) := by
  intro B Fr H0 s σ H r s' R e Q k
  obtain ⟨rfl, rfl⟩ := Prod.mk.inj (Option.some.inj e)
  exact k w H H0 (Ex.refl _) R (h _)
theorem den_op {rr : R2} {op : PyData → PyData → Option PV} (ho : Den2 K rr op) (ha : DenE K ta f) (hb : DenE K tb g) : DenE K (tOp rr ta tb) (dOp op f g) := by
  intro B Fr H0 s σ H r s' R e Q k
  obtain ⟨⟨r1, s1⟩, e1, e⟩ := bind_some e
  obtain ⟨⟨r2, s2⟩, e2, e⟩ := bind_some e
  obtain ⟨x, e3, e⟩ := bind_some e
  obtain ⟨y, e4, e⟩ := bind_some e
  obtain ⟨z, e5, e6⟩ := map_some e
  obtain ⟨rfl, rfl⟩ := Prod.mk.inj e6
  refine ha B Fr H0 s σ H r1 s1 R e1 _ fun v1 H1 H01 x1 R1 q1 => ?_
  obtain ⟨H02, x2, R2, q2⟩ := q1.hold R1
  refine hb B Fr H02 s1 σ H1 r2 s2 R2 e2 _ fun v2 H2 H03 x3 R3 q3 => ?_
  obtain ⟨H04, x4, R4, q4⟩ := q3.hold R3
  refine ho H04 H2 v1 v2 x y z Q R4.e0 ((q2.up (x3.trans x4)).dq R4 e3) (q4.dq R4 e4) e5 (out_of R4 fun v H' H0' x5 R5 q5 => ?_)
  exact k v H' H0' ((((x1.trans x2).trans x3).trans x4).trans x5) R5 q5
theorem den_un {rr : V → Hp → VK → Prop} {op : PyData → Option PV} (ho : Den1 K rr op) (ha : DenE K ta f) : DenE K (tUn rr ta) (dUn op f) := by
  intro B Fr H0 s σ H r s' R e Q k
  obtain ⟨⟨r1, s1⟩, e1, e⟩ := bind_some e
  obtain ⟨x, e3, e⟩ := bind_some e
  obtain ⟨z, e5, e6⟩ := map_some e
  obtain ⟨rfl, rfl⟩ := Prod.mk.inj e6
  refine ha B Fr H0 s σ H r1 s1 R e1 _ fun v1 H1 H01 x1 R1 q1 => ?_
  obtain ⟨H02, x2, R2, q2⟩ := q1.hold R1
  refine ho H02 H1 v1 x z Q R2.e0 (q2.dq R2 e3) e5 (out_of R2 fun v H' H0' x5 R5 q5 => ?_)
  exact k v H' H0' ((x1.trans x2).trans x5) R5 q5
theorem test_eq {s : SS} {b : Bool} {s' : SS} (h : dTest f s = some (b, s')) : f s = some (.d (.bool b), s') := by
  obtain ⟨⟨r, s1⟩, e1, e⟩ := bind_some h
  rw [e1]
  cases r with
  | d x =>
    cases x with
    | bool c =>
      obtain ⟨rfl, rfl⟩ := Prod.mk.inj (Option.some.inj e)
      rfl
    | _ => cases e
  | _ => cases e
theorem den_test (h : DenE K te f) : DenT K (tTest te) (dTest f) := by
  intro B Fr H0 s σ H b s' R e Q k
  refine h B Fr H0 s σ H _ s' R (test_eq e) _ fun v H1 H01 x1 R1 q1 => ?_
  cases q1
  exact ⟨b, rfl, k H1 H01 x1 R1⟩
theorem den_B (h : DenE K te f) : DenT K (tB te) (dTest f) := by
  intro B Fr H0 s σ H b s' R e Q k
  refine h B Fr H0 s σ H _ s' R (test_eq e) _ fun v H1 H01 x1 R1 q1 => ?_
  cases q1
  exact ⟨b, rfl, k H1 H01 x1 R1⟩
theorem den_not (h : DenT K tt c) : DenT K (tNot tt) (dNot c) := by
  intro B Fr H0 s σ H b s' R e Q k
  obtain ⟨⟨b1, s1⟩, e1, e⟩ := map_some e
  obtain ⟨rfl, rfl⟩ := Prod.mk.inj e
  exact h B Fr H0 s σ H b1 s1 R e1 _ fun H1 H01 x1 R1 => k H1 H01 x1 R1
theorem den_and (h : DenT K tt c) (h' : DenT K tu c') : DenT K (tAnd tt tu) (dAnd c c') := by
  intro B Fr H0 s σ H b s' R e Q k
  obtain ⟨⟨b1, s1⟩, e1, e⟩ := bind_some e
  refine h B Fr H0 s σ H b1 s1 R e1 _ fun H1 H01 x1 R1 => ?_
  cases b1 with
  | true => exact ite_tt (h' B Fr H01 s1 σ H1 b s' R1 e Q fun H2 H02 x2 R2 => k H2 H02 (x1.trans x2) R2)
  | false =>
    obtain ⟨rfl, rfl⟩ := Prod.mk.inj (Option.some.inj e)
    exact ite_ff (k H1 H01 x1 R1)
theorem den_or (h : DenT K tt c) (h' : DenT K tu c') : DenT K (tOr tt tu) (dOr c c') := by
  intro B Fr H0 s σ H b s' R e Q k
  obtain ⟨⟨b1, s1⟩, e1, e⟩ := bind_some e
  refine h B Fr H0 s σ H b1 s1 R e1 _ fun H1 H01 x1 R1 => ?_
  cases b1 with
  | false => exact ite_ff (h' B Fr H01 s1 σ H1 b s' R1 e Q fun H2 H02 x2 R2 => k H2 H02 (x1.trans x2) R2)
  | true =>
    obtain ⟨rfl, rfl⟩ := Prod.mk.inj (Option.some.inj e)
    exact ite_tt (k H1 H01 x1 R1)
theorem den_ifE (h : DenT K tt c) (ha : DenE K ta f) (hb : DenE K tb g) : DenE K (tIf tt ta tb) (dIf c f g) := by
  intro B Fr H0 s σ H r s' R e Q k
  obtain ⟨⟨b1, s1⟩, e1, e⟩ := bind_some e
  refine h B Fr H0 s σ H b1 s1 R e1 _ fun H1 H01 x1 R1 => ?_
  cases b1 with
  | true => exact ite_tt (ha B Fr H01 s1 σ H1 r s' R1 e Q fun v H2 H02 x2 R2 => k v H2 H02 (x1.trans x2) R2)
  | false => exact ite_ff (hb B Fr H01 s1 σ H1 r s' R1 e Q fun v H2 H02 x2 R2 => k v H2 H02 (x1.trans x2) R2)
theorem den_nil : DenA K tNil dNil := by
  intro B Fr H0 s σ H rs s' R e Q k
  obtain ⟨rfl, rfl⟩ := Prod.mk.inj (Option.some.inj e)
  exact k [] H H0 (Ex.refl _) R .nil
theorem den_cons (ha : DenE K ta f) (hr : DenA K tas fa) : DenA K (tCons ta tas) (dCons f fa) := by
  intro B Fr H0 s σ H rs s' R e Q k
  obtain ⟨⟨r1, s1⟩, e1, e⟩ := bind_some e
  obtain ⟨⟨rs2, s2⟩, e2, e⟩ := map_some e
  obtain ⟨rfl, rfl⟩ := Prod.mk.inj e
  refine ha B Fr H0 s σ H r1 s1 R e1 _ fun v1 H1 H01 x1 R1 q1 => ?_
  obtain ⟨H02, x2, R2, q2⟩ := q1.hold R1
  refine hr B Fr H02 s1 σ H1 rs2 s2 R2 e2 _ fun vs H2 H03 x3 R3 q3 => ?_
  exact k (v1 :: vs) H2 H03 ((x1.trans x2).trans x3) R3 (.cons (q2.up x3) q3)
theorem den_tup (h : DenA K tas fa) : DenE K (tTup tas) (dTup fa) := by
  intro B Fr H0 s σ H r s' R e Q k
  obtain ⟨⟨rs, s1⟩, e1, e⟩ := bind_some e
  obtain ⟨⟨xs, s2⟩, e2, e⟩ := bind_some e
  refine h B Fr H0 s σ H rs s1 R e1 _ fun vs H1 H01 x1 R1 q1 => ?_
  obtain ⟨H02, x2, R2, q2⟩ := q1.take R1 e2
  have e : (if xs.length ≤ 100000 then some (RV.d (.tuple xs), s2) else none) = some (r, s') := e
  by_cases hl : xs.length ≤ 100000
  · rw [if_pos hl] at e
    obtain ⟨rfl, rfl⟩ := Prod.mk.inj (Option.some.inj e)
    refine ⟨sz_of (by rw [dpa_len q2]; exact hl), fun p hp => ?_⟩
    exact (out_of (z := .t xs) R2 fun v H' H0' x5 R5 q5 => k v H' H0' ((x1.trans x2).trans x5) R5 q5).2 p vs hp q2
  · rw [if_neg hl] at e
    cases e
theorem den_lst (h : DenA K tas fa) : DenE K (tLst tas) (dLst fa) := by
  intro B Fr H0 s σ H r s' R e Q k
  obtain ⟨⟨rs, s1⟩, e1, e⟩ := bind_some e
  obtain ⟨⟨xs, s2⟩, e2, e⟩ := bind_some e
  refine h B Fr H0 s σ H rs s1 R e1 _ fun vs H1 H01 x1 R1 q1 => ?_
  obtain ⟨H02, x2, R2, q2⟩ := q1.take R1 e2
  have e : (if xs.length ≤ 100000 then some (RV.fresh xs, s2) else none) = some (r, s') := e
  by_cases hl : xs.length ≤ 100000
  · rw [if_pos hl] at e
    obtain ⟨rfl, rfl⟩ := Prod.mk.inj (Option.some.inj e)
    refine ⟨sz_of (by rw [dpa_len q2]; exact hl), fun p hp => ?_⟩
    exact (out_of (z := .l xs) R2 fun v H' H0' x5 R5 q5 => k v H' H0' ((x1.trans x2).trans x5) R5 q5) p vs hp q2
  · rw [if_neg hl] at e
    cases e
theorem den_cb {rr : List V → Hp → VK → Prop} {op : List PyData → Option PV} (ho : DenB K rr op) (h : DenA K tas fa) : DenE K (tCB rr tas) (dCB op fa) := by
  intro B Fr H0 s σ H r s' R e Q k
  obtain ⟨⟨rs, s1⟩, e1, e⟩ := bind_some e
  obtain ⟨xs, e2, e⟩ := bind_some e
  obtain ⟨z, e3, e⟩ := map_some e
  obtain ⟨rfl, rfl⟩ := Prod.mk.inj e
  refine h B Fr H0 s σ H rs s1 R e1 _ fun vs H1 H01 x1 R1 q1 => ?_
  exact ho H01 H1 vs xs z Q R1.e0 (q1.dat R1 e2) e3 (out_of R1 fun v H' H0' x5 R5 q5 => k v H' H0' (x1.trans x5) R5 q5)
end
end XN

set_option maxRecDepth 100000
set_option maxHeartbeats 4000000
/-! statements, walks, comprehensions on data -/
namespace XN
open PySem PySem.Spec PyProof.Rows L2 Evl

inductive OutS where
  | nx
  | rt (r : RV)
  | bk
  | ct
abbrev DS := SS → Option (OutS × SS)
abbrev DI := SS → Option (List PyData × SS)
abbrev DG := PyData → SS → Option SS
section
variable (K : PySem.W.Frag)
def EndIs (B : Option Addr) (Fr H0 : Hp) (D : Ends) (s' : SS) : OutS → Prop
  | .nx => ∀ σ' H' H0', Ex H0 H0' → Rel K B Fr H0' s' σ' H' → D.nx σ' H'
  | .bk => ∀ σ' H' H0', Ex H0 H0' → Rel K B Fr H0' s' σ' H' → D.bk σ' H'
  | .ct => ∀ σ' H' H0', Ex H0 H0' → Rel K B Fr H0' s' σ' H' → D.ct σ' H'
  | .rt r => ∀ v σ' H' H0', Ex H0 H0' → Rel K B Fr H0' s' σ' H' → Res K B Fr H0' s' σ' H' v r → D.rt v H'
def DenS (ts : TS) (f : DS) : Prop := ∀ (B : Option Addr) (Fr H0 : Hp) (s : SS) (σ : L2.St) (H : Hp) (o : OutS) (s' : SS), Rel K B Fr H0 s σ H → f s = some (o, s') → ∀ D : Ends, EndIs K B Fr H0 D s' o → ts D σ H
/-- what is walked: its items are data -/
def DenI (wi : TI) (f : DI) : Prop := ∀ (B : Option Addr) (Fr H0 : Hp) (s : SS) (σ : L2.St) (H : Hp) (xs : List PyData) (s' : SS), Rel K B Fr H0 s σ H → f s = some (xs, s') → ∀ R : It → Hp → Prop,
  (∀ (J : It) (H' H0' : Hp) (G : Hp → Prop) (Y : Nat → Hp → V → Hp → Prop), Ex H0 H0' → Rel K B Fr H0' s' σ H' → Walk J xs.length G Y → (∀ Ha, Ex H0' Ha → G Ha) →
    (∀ i Ha x Hb, Ex H0' Ha → Y i Ha x Hb → Hb = Ha ∧ ∃ d, xs[i]? = some d ∧ Dp K H0' x d) → R J H') → wi σ H R
def DenG (g : TG) (f : DG) : Prop := ∀ (B : Option Addr) (Fr H0 : Hp) (s : SS) (σ : L2.St) (H : Hp) (x : PyData) (v : V) (s' : SS), Rel K B Fr H0 s σ H → Dp K H0 v x → f x s = some s' → ∀ Q : L2.St → Hp → Prop,
  (∀ σ' H' H0', Ex H0 H0' → Rel K B Fr H0' s' σ' H' → Q σ' H') → g v σ H Q
end
structure DSt (X : Cx) (st : Stmt) (ts : PySem.W.Frag → TS) (f : DS) : Prop where
  ps : PS X st (ts X.K)
  den : DenS X.K (ts X.K) f
structure DSs (X : Cx) (st : List Stmt) (ts : PySem.W.Frag → TS) (f : DS) : Prop where
  ps : PSs X st (ts X.K)
  den : DenS X.K (ts X.K) f
structure DIt (X : Cx) (tg iter : Expr) (wi : PySem.W.Frag → TI) (f : DI) : Prop where
  pi : PI X tg iter (wi X.K)
  den : DenI X.K (wi X.K) f
structure DGt (X : Cx) (tg : Expr) (g : PySem.W.Frag → TG) (f : DG) : Prop where
  pg : PG X tg (g X.K)
  den : DenG X.K (g X.K) f

/-! ### the functions -/
def dNx : DS := fun s => some (.nx, s)
def dBk : DS := fun s => some (.bk, s)
def dCt : DS := fun s => some (.ct, s)
def dSeq (f g : DS) : DS := fun s => (f s).bind fun p => match p.1 with
  | .nx => g p.2
  | o => some (o, p.2)
def dSet (i : Nat) (f : DF) : DS := fun s => (f s).bind fun p => if i < p.2.e.length then (p.2.put i p.1).map fun s1 => (.nx, s1) else none
def dDrop (f : DF) : DS := fun s => (f s).map fun p => (.nx, p.2)
def dRet (f : DF) : DS := fun s => (f s).map fun p => (.rt p.1, p.2)
def dRetN : DS := fun s => some (.rt (.d .none), s)
def dIfS (c : DT) (f g : DS) : DS := fun s => (c s).bind fun p => if p.1 = true then f p.2 else g p.2
def dName (i : Nat) : DG := fun x s => if i < s.e.length then some ⟨s.e.set i (some (.d x)), s.b⟩ else none
def forFold (g : DG) (body : DS) : List PyData → SS → Option (OutS × SS)
  | [], s => some (.nx, s)
  | x :: xs, s => (g x s).bind fun s1 => (body s1).bind fun p => match p.1 with
    | .nx => forFold g body xs p.2
    | .ct => forFold g body xs p.2
    | .bk => some (.nx, p.2)
    | .rt r => some (.rt r, p.2)
def dFor (it : DI) (g : DG) (body : DS) : DS := fun s => (it s).bind fun p => forFold g body p.1 p.2
def whFold (c : DT) (body : DS) : Nat → SS → Option (OutS × SS)
  | 0, _ => none
  | n + 1, s => (c s).bind fun q => if q.1 = true then (body q.2).bind fun p => match p.1 with
      | .nx => whFold c body n p.2
      | .ct => whFold c body n p.2
      | .bk => some (.nx, p.2)
      | .rt r => some (.rt r, p.2)
    else some (.nx, q.2)
def dWhile (c : DT) (body : DS) : DS := fun s => whFold c body 1000000 s
/-- the items of data that can be walked -/
def items : PyData → Option (List PyData)
  | .list xs => some xs
  | .tuple xs => some xs
  | .str z => some (z.cps.toList.map fun c => .str ⟨#[c]⟩)
  | _ => none
def dItems (f : DF) : DI := fun s => (f s).bind fun p => (p.1.hold.take p.2).bind fun q => (items q.1).map fun xs => (xs, q.2)
def rngI (lo : Int) (n : Nat) : List PyData := (List.range n).map fun (i : Nat) => PyData.int (lo + (i : Int))
def dRng1 (f : DA) : DI := fun s => (f s).bind fun p => match p.1 with
  | [.d (.int n)] => if -1000000000 < n ∧ n < 1000000000 then some (rngI 0 n.toNat, p.2) else none
  | _ => none
def dRng2 (f : DA) : DI := fun s => (f s).bind fun p => match p.1 with
  | [.d (.int a), .d (.int b)] => if -1000000000 < a ∧ a < 1000000000 ∧ -1000000000 < b ∧ b < 1000000000 then some (rngI a (b - a).toNat, p.2) else none
  | _ => none

section
variable {K : PySem.W.Frag} {B : Option Addr} {Fr H0 H0' H H' : Hp} {s s' : SS} {σ : L2.St} {v : V} {r : RV} {ta tb te : TE} {tt tu : TT} {tas : TA} {f g : DF} {c c' : DT} {fa : DA} {ts us : TS} {fs gs : DS} {D : Ends} {o : OutS}
theorem EndIs.up (e : Ex H0 H0') (h : EndIs K B Fr H0 D s o) : EndIs K B Fr H0' D s o := by
  cases o with
  | nx => exact fun σ' H' H1 x R => h σ' H' H1 (e.trans x) R
  | bk => exact fun σ' H' H1 x R => h σ' H' H1 (e.trans x) R
  | ct => exact fun σ' H' H1 x R => h σ' H' H1 (e.trans x) R
  | rt r => exact fun v σ' H' H1 x R => h v σ' H' H1 (e.trans x) R
theorem den_nx : DenS K tNext dNx := by
  intro B Fr H0 s σ H o s' R e D k
  obtain ⟨rfl, rfl⟩ := Prod.mk.inj (Option.some.inj e)
  exact k σ H H0 (Ex.refl _) R
theorem den_bk : DenS K tBreak dBk := by
  intro B Fr H0 s σ H o s' R e D k
  obtain ⟨rfl, rfl⟩ := Prod.mk.inj (Option.some.inj e)
  exact k σ H H0 (Ex.refl _) R
theorem den_ct : DenS K tCont dCt := by
  intro B Fr H0 s σ H o s' R e D k
  obtain ⟨rfl, rfl⟩ := Prod.mk.inj (Option.some.inj e)
  exact k σ H H0 (Ex.refl _) R
theorem den_seq (h1 : DenS K ts fs) (h2 : DenS K us gs) : DenS K (tSeq ts us) (dSeq fs gs) := by
  intro B Fr H0 s σ H o s' R e D k
  obtain ⟨⟨o1, s1⟩, e1, e⟩ := bind_some e
  refine h1 B Fr H0 s σ H o1 s1 R e1 _ ?_
  cases o1 with
  | nx => exact fun σ' H' H1 x R1 => h2 B Fr H1 s1 σ' H' o s' R1 e D (k.up x)
  | bk =>
    obtain ⟨rfl, rfl⟩ := Prod.mk.inj (Option.some.inj e)
    exact k
  | ct =>
    obtain ⟨rfl, rfl⟩ := Prod.mk.inj (Option.some.inj e)
    exact k
  | rt r =>
    obtain ⟨rfl, rfl⟩ := Prod.mk.inj (Option.some.inj e)
    exact k
theorem den_set {i : Nat} (h : DenE K te f) : DenS K (tAsg te (gName i)) (dSet i f) := by
  intro B Fr H0 s σ H o s' R e D k
  obtain ⟨⟨r, s1⟩, e1, e⟩ := bind_some e
  have e : (if i < s1.e.length then (s1.put i r).map fun s1 => (OutS.nx, s1) else none) = some (o, s') := e
  by_cases il : i < s1.e.length
  · rw [if_pos il] at e
    obtain ⟨s2, e2, e3⟩ := map_some e
    obtain ⟨rfl, rfl⟩ := Prod.mk.inj e3
    refine h B Fr H0 s σ H r s1 R e1 _ fun v H1 H01 x1 R1 q1 => ?_
    obtain ⟨H02, x2, R2⟩ := R1.put (by rw [← R1.len]; exact il) q1 e2
    exact k _ H1 H02 (x1.trans x2) R2
  · rw [if_neg il] at e
    cases e
theorem den_drop (h : DenE K te f) : DenS K (tDrop te) (dDrop f) := by
  intro B Fr H0 s σ H o s' R e D k
  obtain ⟨⟨r, s1⟩, e1, e⟩ := map_some e
  obtain ⟨rfl, rfl⟩ := Prod.mk.inj e
  exact h B Fr H0 s σ H r s1 R e1 _ fun v H1 H01 x1 R1 q1 => k σ H1 H01 x1 R1
theorem den_ret (h : DenE K te f) : DenS K (tRet te) (dRet f) := by
  intro B Fr H0 s σ H o s' R e D k
  obtain ⟨⟨r, s1⟩, e1, e⟩ := map_some e
  obtain ⟨rfl, rfl⟩ := Prod.mk.inj e
  exact h B Fr H0 s σ H r s1 R e1 _ fun v H1 H01 x1 R1 q1 => k v σ H1 H01 x1 R1 q1
theorem den_retN : DenS K tRetN dRetN := by
  intro B Fr H0 s σ H o s' R e D k
  obtain ⟨rfl, rfl⟩ := Prod.mk.inj (Option.some.inj e)
  exact k .non σ H H0 (Ex.refl _) R Dp.non
theorem den_ifS (h : DenT K tt c) (h1 : DenS K ts fs) (h2 : DenS K us gs) : DenS K (tIfS tt ts us) (dIfS c fs gs) := by
  intro B Fr H0 s σ H o s' R e D k
  obtain ⟨⟨b1, s1⟩, e1, e⟩ := bind_some e
  refine h B Fr H0 s σ H b1 s1 R e1 _ fun H1 H01 x1 R1 => ?_
  cases b1 with
  | true => exact ite_tt (h1 B Fr H01 s1 σ H1 o s' R1 e D (k.up x1))
  | false => exact ite_ff (h2 B Fr H01 s1 σ H1 o s' R1 e D (k.up x1))
theorem den_name (i : Nat) : DenG K (gName i) (dName i) := by
  intro B Fr H0 s σ H x v s' R d e Q k
  unfold dName at e
  by_cases il : i < s.e.length
  · rw [if_pos il] at e
    obtain rfl := Option.some.inj e
    exact k _ H H0 (Ex.refl _) (R.putW (by rw [← R.len]; exact il) ⟨v, rfl, d⟩ fun _ z => nomatch z)
  · rw [if_neg il] at e
    cases e
theorem den_for {wi : TI} {tg : TG} {fi : DI} {fg : DG} (hi : DenI K wi fi) (hg : DenG K tg fg) (hb : DenS K ts fs) : DenS K (tFor wi tg ts) (dFor fi fg fs) := by
  intro B Fr H0 s σ H o s' R e D k
  obtain ⟨⟨xs, s1⟩, e1, e⟩ := bind_some e
  refine hi B Fr H0 s σ H xs s1 R e1 _ fun J H1 H01 G Y x1 R1 W hG hY => ?_
  refine for_it W (fun i σ' H' => ∃ H02 s2, Ex H01 H02 ∧ Rel K B Fr H02 s2 σ' H' ∧ forFold fg fs (xs.drop i) s2 = some (o, s')) ⟨H01, s1, Ex.refl _, R1, e⟩ (fun i σ' H' _ hP => ?_) (fun i x σ' Ha Hb hn hP y => ?_) fun σ' H' hP => ?_
  · obtain ⟨H02, s2, x2, R2, _⟩ := hP
    exact hG H' (x2.trans R2.e0)
  · obtain ⟨H02, s2, x2, R2, e2⟩ := hP
    obtain ⟨rfl, d, hd, dd⟩ := hY i Ha x Hb (x2.trans R2.e0) y
    have ed : xs.drop i = d :: xs.drop (i + 1) := by
      obtain ⟨hl, e9⟩ := List.getElem?_eq_some_iff.mp hd
      rw [← e9]
      exact List.drop_eq_getElem_cons hl
    rw [ed] at e2
    obtain ⟨s3, e3, e2⟩ := bind_some e2
    obtain ⟨⟨o4, s4⟩, e4, e2⟩ := bind_some e2
    refine hg B Fr H02 s2 σ' Hb d x s3 R2 (dp_ex x2 _ _ dd) e3 _ fun σ3 H3 H03 x3 R3 => ?_
    refine hb B Fr H03 s3 σ3 H3 o4 s4 R3 e4 _ ?_
    cases o4 with
    | nx => exact fun σ5 H5 H05 x5 R5 => ⟨H05, s4, (x2.trans x3).trans x5, R5, e2⟩
    | ct => exact fun σ5 H5 H05 x5 R5 => ⟨H05, s4, (x2.trans x3).trans x5, R5, e2⟩
    | bk =>
      obtain ⟨rfl, rfl⟩ := Prod.mk.inj (Option.some.inj e2)
      exact fun σ5 H5 H05 x5 R5 => k σ5 H5 H05 (((x1.trans x2).trans x3).trans x5) R5
    | rt r =>
      obtain ⟨rfl, rfl⟩ := Prod.mk.inj (Option.some.inj e2)
      exact fun v σ5 H5 H05 x5 R5 q5 => k v σ5 H5 H05 (((x1.trans x2).trans x3).trans x5) R5 q5
  · obtain ⟨H02, s2, x2, R2, e2⟩ := hP
    rw [List.drop_length] at e2
    obtain ⟨rfl, rfl⟩ := Prod.mk.inj (Option.some.inj e2)
    exact k σ' H' H02 (x1.trans x2) R2
theorem den_while (hc : DenT K tt c) (hb : DenS K ts fs) : DenS K (tWhile tt ts) (dWhile c fs) := by
  intro B Fr H0 s σ H o s' R e D k
  refine ⟨fun m σ' H' => ∃ H02 s2, Ex H0 H02 ∧ Rel K B Fr H02 s2 σ' H' ∧ whFold c fs m s2 = some (o, s'), ⟨_, H0, s, Ex.refl _, R, e⟩, ?_⟩
  rintro m σ' H' ⟨H02, s2, x2, R2, e2⟩
  cases m with
  | zero => cases e2
  | succ m =>
    obtain ⟨⟨b3, s3⟩, e3, e2⟩ := bind_some e2
    refine hc B Fr H02 s2 σ' H' b3 s3 R2 e3 _ fun H3 H03 x3 R3 => ?_
    cases b3 with
    | false =>
      have e2 : some (OutS.nx, s3) = some (o, s') := e2
      obtain ⟨rfl, rfl⟩ := Prod.mk.inj (Option.some.inj e2)
      exact k σ' H3 H03 (x2.trans x3) R3
    | true =>
      obtain ⟨⟨o4, s4⟩, e4, e2⟩ := bind_some (show ((fs s3).bind fun p => _) = _ from e2)
      refine ⟨fun σ5 H5 => ∃ H05, Ex H0 H05 ∧ Rel K B Fr H05 s4 σ5 H5 ∧ whFold c fs m s4 = some (o, s'), fun σ5 H5 ⟨H05, x5, R5, e5⟩ => ⟨m, Nat.lt_succ_self m, H05, s4, x5, R5, e5⟩, ?_⟩
      refine hb B Fr H03 s3 σ' H3 o4 s4 R3 e4 _ ?_
      cases o4 with
      | nx => exact fun σ5 H5 H05 x5 R5 => ⟨H05, (x2.trans x3).trans x5, R5, e2⟩
      | ct => exact fun σ5 H5 H05 x5 R5 => ⟨H05, (x2.trans x3).trans x5, R5, e2⟩
      | bk =>
        obtain ⟨rfl, rfl⟩ := Prod.mk.inj (Option.some.inj e2)
        exact fun σ5 H5 H05 x5 R5 => k σ5 H5 H05 ((x2.trans x3).trans x5) R5
      | rt r =>
        obtain ⟨rfl, rfl⟩ := Prod.mk.inj (Option.some.inj e2)
        exact fun v σ5 H5 H05 x5 R5 q5 => k v σ5 H5 H05 ((x2.trans x3).trans x5) R5 q5
end
end XN

set_option maxRecDepth 100000
set_option maxHeartbeats 4000000
/-! what is walked; comprehensions; methods of a slot's list; the box; defs -/
namespace XN
open PySem PySem.Spec PyProof.Rows L2 Evl

/-! ### what is walked -/
def iAny (K : PySem.W.Frag) (te : TE) : TI := fun σ H R => te σ H fun x H1 => (∃ a, x = .ref a ∧ (∃ xs, SqL K H1 a xs) ∧ R (Itl K a) H1) ∨ (∃ a, x = .ref a ∧ (∃ xs, SqT K H1 a xs) ∧ R (Itt K a) H1) ∨ ∃ z, x = .str z ∧ R (Its z) H1
section
variable {X : Cx} {tg : Expr}
theorem pi_any {l : Expr} {tl : TE} (hl : PE X l tl) : PI X tg l (iAny X.K tl) := by
  refine ⟨fun pins s σ H R I h => ?_⟩
  refine thn (hl.run pins s σ H _ I h) fun v s1 ⟨x, H1, I1, r1, q1⟩ => ?_
  rcases q1 with ⟨a, e, ⟨xs, hq⟩, q⟩ | ⟨a, e, ⟨xs, hq⟩, q⟩ | ⟨z, e, q⟩
  · subst e
    cases r1
    obtain ⟨its, rv, p, hz⟩ := I1.list hq
    refine wpAny_pyIter_list p.isList ?_
    refine ⟨s1.heap.objs.size, [s1.heap.objs.size], _, _, H1, rfl, I1.kept (t' := s1.toks) fun b o e => Heap.get?_push_of_some _ e, turn_list a _, ⟨_, Heap.get?_push_size _ rfl, rfl, rfl⟩, fun b hb => ?_, q⟩
    have e : b = s1.heap.objs.size := by simpa using hb
    subst e
    exact I1.fpOk (Nat.le_refl _) (I1.hok.fresh (Nat.le_refl _))
  · subst e
    cases r1
    obtain ⟨its, rv, p, hz⟩ := I1.tuple hq
    refine wpAny_pyIter_tuple (show s1.heap.IsTuple a its.toArray from p) ?_
    refine ⟨s1.heap.objs.size, [s1.heap.objs.size], _, _, H1, rfl, I1.kept (t' := s1.toks) fun b o e => Heap.get?_push_of_some _ e, turn_tuple a _, ⟨_, Heap.get?_push_size _ rfl, rfl, rfl⟩, fun b hb => ?_, q⟩
    have e : b = s1.heap.objs.size := by simpa using hb
    subst e
    exact I1.fpOk (Nat.le_refl _) (I1.hok.fresh (Nat.le_refl _))
  · subst e
    obtain ⟨t, rfl⟩ := r1
    cases ha : z.cps.all (· < 128)
    · exact wpAny_pyIter_wide ha (pi_one (tk := s1.toks) I1 _ (turn_str _ z t "str_iterator" (.inr rfl)) ⟨_, Heap.get?_push_size _ rfl, rfl, rfl⟩ q)
    · exact wpAny_pyIter_ascii ha (pi_one (tk := s1.toks) I1 _ (turn_str _ z t "str_ascii_iterator" (.inl rfl)) ⟨_, Heap.get?_push_size _ rfl, rfl, rfl⟩ q)
end
section
variable {K : PySem.W.Frag} {B : Option Addr} {Fr H0 H0' H H' : Hp} {s s' : SS} {σ : L2.St} {v : V} {r : RV} {ta tb te : TE} {tt tu : TT} {tas : TA} {f g : DF} {c c' : DT} {fa : DA} {ts us : TS} {fs gs : DS} {D : Ends} {o : OutS}
theorem den_items (h : DenE K te f) : DenI K (iAny K te) (dItems f) := by
  intro B Fr H0 s σ H xs s' R e Rw k
  obtain ⟨⟨r1, s1⟩, e1, e⟩ := bind_some e
  obtain ⟨⟨x, s2⟩, e2, e⟩ := bind_some e
  obtain ⟨ys, e3, e4⟩ := map_some e
  obtain ⟨rfl, rfl⟩ := Prod.mk.inj e4
  refine h B Fr H0 s σ H r1 s1 R e1 _ fun v H1 H01 x1 R1 q1 => ?_
  obtain ⟨H02, x2, R2, q2⟩ := q1.hold R1
  obtain ⟨H03, x3, R3, d⟩ := q2.take R2 e2
  have at_ : ∀ {vs : List V} {i : Nat} {y : V}, DpAll K H03 vs ys → vs[i]? = some y → ∃ d, ys[i]? = some d ∧ Dp K H03 y d := by
    intro vs i y da hy
    have hi : i < ys.length := by
      rw [← dpa_len da]
      exact (List.getElem?_eq_some_iff.mp hy).1
    obtain ⟨w, hw, dw⟩ := dpa_get da (List.getElem?_eq_getElem hi)
    rw [hy] at hw
    cases hw
    exact ⟨_, List.getElem?_eq_getElem hi, dw⟩
  cases x with
  | list zs =>
    obtain rfl := Option.some.inj e3
    cases d with
    | lst hs ha =>
      rename_i a vs
      refine .inl ⟨_, rfl, ⟨vs, ex_l R3.e0 hs⟩, k _ H1 H03 (fun Ha => SqL K Ha a vs) (YAt vs) ((x1.trans x2).trans x3) R3 ?_ (fun Ha x => ex_l x hs) fun i Ha y Hb x q => ⟨q.1, at_ ha q.2⟩⟩
      rw [← dpa_len ha]
      exact walk_list
  | tuple zs =>
    obtain rfl := Option.some.inj e3
    cases d with
    | tup hs ha =>
      rename_i a vs
      refine .inr (.inl ⟨_, rfl, ⟨vs, ex_t R3.e0 hs⟩, k _ H1 H03 (fun Ha => SqT K Ha a vs) (YAt vs) ((x1.trans x2).trans x3) R3 ?_ (fun Ha x => ex_t x hs) fun i Ha y Hb x q => ⟨q.1, at_ ha q.2⟩⟩)
      rw [← dpa_len ha]
      exact walk_tup
  | str z =>
    obtain rfl := Option.some.inj e3
    cases d
    refine .inr (.inr ⟨z, rfl, k _ H1 H03 (fun _ => True) (fun i H v H' => H' = H ∧ ∃ c, z.cps[i]? = some c ∧ v = .str ⟨#[c]⟩) ((x1.trans x2).trans x3) R3 ?_ (fun _ _ => trivial) fun i Ha y Hb x q => ⟨q.1, ?_⟩⟩)
    · have e : (z.cps.toList.map fun c => PyData.str ⟨#[c]⟩).length = z.cps.size := by rw [List.length_map, Array.length_toList]
      rw [e]
      exact walk_str
    · obtain ⟨_, c, hc, rfl⟩ := q
      refine ⟨.str ⟨#[c]⟩, ?_, .str _⟩
      rw [List.getElem?_map, Array.getElem?_toList, hc]
      rfl
  | _ => cases e3
theorem held_int {n : Int} {v : V} (h : Held K B H0 σ v (.d (.int n))) : v = .int n := by cases h; rfl
theorem den_rng (lo : Int) (n : Nat) {R : It → Hp → Prop} {xs : List PyData} (hx : xs = rngI lo n) (Rl : Rel K B Fr H0 s σ H)
    (k : ∀ (J : It) (H' H0' : Hp) (G : Hp → Prop) (Y : Nat → Hp → V → Hp → Prop), Ex H0 H0' → Rel K B Fr H0' s σ H' → Walk J xs.length G Y → (∀ Ha, Ex H0' Ha → G Ha) →
    (∀ i Ha x Hb, Ex H0' Ha → Y i Ha x Hb → Hb = Ha ∧ ∃ d, xs[i]? = some d ∧ Dp K H0' x d) → R J H') : R (Itr lo n) H := by
  have e : xs.length = n := by
    rw [hx]
    unfold rngI
    rw [List.length_map, List.length_range]
  refine k _ H H0 (fun _ => True) (fun i Ha x Hb => Hb = Ha ∧ x = .int (lo + i) ∧ i < n) (Ex.refl _) Rl ?_ (fun _ _ => trivial) fun i Ha x Hb _ q => ⟨q.1, .int (lo + i), ?_, ?_⟩
  · rw [e]
    exact ⟨fun _ _ hi _ => hi, fun _ _ => Nat.le_refl _, fun i _ _ _ hi _ y => ⟨y.1, y.2, hi⟩⟩
  · rw [hx]
    unfold rngI
    rw [List.getElem?_map, List.getElem?_range q.2.2]
    rfl
  · rw [q.2.1]
    exact .int _
theorem den_rng1 (h : DenA K tas fa) : DenI K (iRng1 tas) (dRng1 fa) := by
  intro B Fr H0 s σ H xs s' R e Rw k
  obtain ⟨⟨rs, s1⟩, e1, e⟩ := bind_some e
  refine h B Fr H0 s σ H rs s1 R e1 _ fun vs H1 H01 x1 R1 q1 => ?_
  dsimp only at e
  split at e
  · rename_i n
    split at e
    · rename_i hn
      obtain ⟨rfl, rfl⟩ := Prod.mk.inj (Option.some.inj e)
      cases q1 with
      | cons h1 t1 =>
        cases t1
        obtain rfl := held_int h1
        exact ⟨n, rfl, by omega, by omega, den_rng 0 n.toNat rfl R1 fun J H' H0' G Y x R' => k J H' H0' G Y (x1.trans x) R'⟩
    · cases e
  · cases e
theorem den_rng2 (h : DenA K tas fa) : DenI K (iRng2 tas) (dRng2 fa) := by
  intro B Fr H0 s σ H xs s' R e Rw k
  obtain ⟨⟨rs, s1⟩, e1, e⟩ := bind_some e
  refine h B Fr H0 s σ H rs s1 R e1 _ fun vs H1 H01 x1 R1 q1 => ?_
  dsimp only at e
  split at e
  · rename_i m n
    split at e
    · rename_i hn
      obtain ⟨rfl, rfl⟩ := Prod.mk.inj (Option.some.inj e)
      cases q1 with
      | cons h1 t1 =>
        cases t1 with
        | cons h2 t2 =>
          cases t2
          obtain rfl := held_int h1
          obtain rfl := held_int h2
          exact ⟨m, n, rfl, ⟨by omega, by omega, by omega, by omega⟩, den_rng m (n - m).toNat rfl R1 fun J H' H0' G Y x R' => k J H' H0' G Y (x1.trans x) R'⟩
    · cases e
  · cases e
end
end XN

set_option maxRecDepth 100000
set_option maxHeartbeats 4000000
/-! comprehensions on data -/
namespace XN
open PySem PySem.Spec PyProof.Rows L2 Evl

abbrev DIo := SS → Option ((List PyData × Option Nat) × SS)
def Chk (o : Option Nat) (xs : List PyData) (s : SS) : Prop := ∀ i, o = some i → s.at i = some xs
def wipeE (e : List (Option SV)) : List Nat → List (Option SV)
  | [] => e
  | v :: vs => (wipeE e vs).set v none
def SS.wipe (s : SS) (vs : List Nat) : SS := ⟨wipeE s.e vs, s.b⟩
def keepD : Option (Option SV) → Option SV
  | some (some (.d x)) => some (.d x)
  | _ => none
def restE (old now : List (Option SV)) : List Nat → List (Option SV)
  | [] => now
  | v :: vs => (restE old now vs).set v (keepD (old[v]?))
section
variable (K : PySem.W.Frag)
def DenIo (vs : List Nat) (wi : TI) (f : DIo) : Prop := ∀ (B : Option Addr) (Fr H0 : Hp) (s : SS) (σ : L2.St) (H : Hp) (xs : List PyData) (o : Option Nat) (s' : SS), Rel K B Fr H0 s σ H → f s = some ((xs, o), s') → ∀ R : It → Hp → Prop,
  (∀ (J : It) (H' H0' : Hp) (G : Hp → Prop) (Y : Nat → Hp → V → Hp → Prop), Ex H0 H0' → Rel K B Fr H0' s' σ H' → Walk J xs.length G Y →
    (∀ Fa Ha H0a sa, Ex H0' H0a → Rel K B Fa H0a sa (wipe σ vs) Ha → Chk o xs sa → G Ha ∧ ∀ i x Hb, Y i Ha x Hb → Hb = Ha ∧ ∃ d, xs[i]? = some d ∧ Dp K H0a x d) → R J H') → wi σ H R
def DenGw (vs : List Nat) (g : TG) (f : DG) : Prop := ∀ (B : Option Addr) (Fr H0 : Hp) (s : SS) (σ : L2.St) (H : Hp) (x : PyData) (v : V) (s' : SS), Rel K B Fr H0 s σ H → Dp K H0 v x → f x s = some s' → ∀ Q : L2.St → Hp → Prop,
  (∀ σ' H' H0', Ex H0 H0' → Rel K B Fr H0' s' σ' H' → wipe σ' vs = wipe σ vs → Q σ' H') → g v σ H Q
end
open Classical in
noncomputable def lcFold (vs : List Nat) (o : Option Nat) (all : List PyData) (g : DG) (t : DT) (f : DF) : List PyData → SS → Option (List PyData × SS)
  | [], s => if Chk o all s then some ([], s) else none
  | x :: xs, s => if Chk o all s then (g x s).bind fun s1 => (t s1).bind fun p => if p.1 = true then
      (f p.2).bind fun q => (q.1.hold.take q.2).bind fun d => (lcFold vs o all g t f xs (d.2.wipe vs)).map fun r => (d.1 :: r.1, r.2)
      else lcFold vs o all g t f xs (p.2.wipe vs) else none
noncomputable def dLc (vs : List Nat) (it : DIo) (g : DG) (t : DT) (f : DF) : DF := fun s => (it s).bind fun p => (lcFold vs p.1.2 p.1.1 g t f p.1.1 (p.2.wipe vs)).bind fun r =>
  if r.1.length < 100000 then some (.fresh r.1, ⟨restE p.2.e r.2.e vs, r.2.b⟩) else none
def dIo (f : DI) : DIo := fun s => (f s).map fun p => ((p.1, none), p.2)
def dItV (vs : List Nat) (i : Nat) : DIo := fun s => match s.e[i]? with
  | some (some (.d x)) => (items x).map fun xs => ((xs, none), s)
  | some (some (.own xs)) => if i ∈ vs then none else some ((xs, some i), s)
  | _ => none
def dYes : DT := fun s => some (true, s)
section
variable {K : PySem.W.Frag} {B : Option Addr} {Fr H0 H0' H H' : Hp} {s s' : SS} {σ : L2.St} {v : V} {r : RV} {ta tb te : TE} {tt tu : TT} {tas : TA} {f g : DF} {c c' : DT} {fa : DA} {ts us : TS} {fs gs : DS} {D : Ends} {o : OutS}
theorem wipeE_len (e : List (Option SV)) : ∀ vs : List Nat, (wipeE e vs).length = e.length
  | [] => rfl
  | v :: vs => by
    unfold wipeE
    rw [List.length_set, wipeE_len e vs]
theorem wipeE_some {e : List (Option SV)} {i : Nat} {w : SV} : ∀ {vs : List Nat}, (wipeE e vs)[i]? = some (some w) → e[i]? = some (some w) ∧ i ∉ vs
  | [], h => ⟨h, by simp⟩
  | u :: vs, h => by
    unfold wipeE at h
    by_cases hi : u = i
    · subst hi
      by_cases hv : u < (wipeE e vs).length
      · rw [List.getElem?_set_self hv] at h; cases h
      · rw [List.getElem?_eq_none (by simpa using hv)] at h; cases h
    · rw [List.getElem?_set_ne hi] at h
      obtain ⟨h1, h2⟩ := wipeE_some h
      exact ⟨h1, by simp only [List.mem_cons, not_or]; exact ⟨fun e => hi e.symm, h2⟩⟩
theorem wipe_get {σ : L2.St} {i : Nat} : ∀ {vs : List Nat}, i ∉ vs → (wipe σ vs)[i]? = σ[i]?
  | [], _ => rfl
  | u :: vs, h => by
    unfold L2.wipe
    rw [List.getElem?_set_ne (fun e => h (by rw [e]; exact List.mem_cons_self ..))]
    exact wipe_get fun m => h (List.mem_cons_of_mem _ m)
theorem wipe_set {σ : L2.St} {i : Nat} {x : Option V} : ∀ {vs : List Nat}, i ∈ vs → wipe (σ.set i x) vs = wipe σ vs
  | u :: vs, h => by
    unfold L2.wipe
    by_cases hu : i ∈ vs
    · rw [wipe_set hu]
    · have e : i = u := by
        rcases List.mem_cons.mp h with e | m
        · exact e
        · exact absurd m hu
      subst e
      have : ∀ ws : List Nat, i ∉ ws → wipe (σ.set i x) ws = (wipe σ ws).set i x := by
        intro ws
        induction ws with
        | nil => intro _; rfl
        | cons w ws ih =>
          intro hm
          unfold L2.wipe
          rw [ih fun m => hm (List.mem_cons_of_mem _ m), List.set_comm _ _ (fun e => hm (by rw [e]; exact List.mem_cons_self ..))]
      rw [this vs hu, List.set_set]
theorem restE_len (a b : List (Option SV)) : ∀ vs : List Nat, (restE a b vs).length = b.length
  | [] => rfl
  | v :: vs => by
    unfold restE
    rw [List.length_set, restE_len a b vs]
theorem restE_some {a b : List (Option SV)} {i : Nat} {w : SV} : ∀ {vs : List Nat}, (restE a b vs)[i]? = some (some w) → (i ∉ vs ∧ b[i]? = some (some w)) ∨ ∃ x, w = .d x ∧ a[i]? = some (some (.d x))
  | [], h => .inl ⟨by simp, h⟩
  | u :: vs, h => by
    unfold restE at h
    by_cases hi : u = i
    · subst hi
      by_cases hv : u < (restE a b vs).length
      · rw [List.getElem?_set_self hv] at h
        have h := Option.some.inj h
        unfold keepD at h
        split at h
        · rename_i x e
          cases h
          exact .inr ⟨x, rfl, e⟩
        · cases h
      · rw [List.getElem?_eq_none (by simpa using hv)] at h; cases h
    · rw [List.getElem?_set_ne hi] at h
      rcases restE_some h with ⟨h1, h2⟩ | h1
      · exact .inl ⟨by simp only [List.mem_cons, not_or]; exact ⟨fun e => hi e.symm, h1⟩, h2⟩
      · exact .inr h1
/-- the block's own names are forgotten -/
theorem Rel.wipe (R : Rel K B Fr H0 s σ H) (vs : List Nat) : Rel K B Fr H0 (s.wipe vs) (L2.wipe σ vs) H where
  e0 := R.e0
  ef := R.ef
  dj := R.dj
  box := R.box
  bb := R.bb
  len := (wipeE_len _ _).trans (R.len.trans (wipe_length σ vs).symm)
  sl := fun i w hi => by
    obtain ⟨h1, h2⟩ := wipeE_some (show (wipeE s.e vs)[i]? = _ from hi)
    rw [wipe_get h2]
    exact R.sl i w h1
  ne := fun i j xs ys p n hi hj => by
    obtain ⟨h1, h2⟩ := wipeE_some (show (wipeE s.e vs)[i]? = _ from hi)
    obtain ⟨h3, h4⟩ := wipeE_some (show (wipeE s.e vs)[j]? = _ from hj)
    rw [wipe_get h2, wipe_get h4]
    exact R.ne i j xs ys p n h1 h3
theorem Rel.rest {s1 : SS} {H1 : Hp} {vs : List Nat} (R1 : Rel K B Fr H0 s1 σ H1) (e : Ex H0 H0') (R : Rel K B Fr H0' s (L2.wipe σ vs) H) : Rel K B Fr H0' ⟨restE s1.e s.e vs, s.b⟩ σ H where
  e0 := R.e0
  ef := R.ef
  dj := R.dj
  box := R.box
  bb := R.bb
  len := (restE_len _ _ _).trans (R.len.trans (wipe_length σ vs))
  sl := fun i w hi => by
    rcases restE_some (show (restE s1.e s.e vs)[i]? = _ from hi) with ⟨h1, h2⟩ | ⟨x, rfl, h2⟩
    · have := R.sl i w h2
      rw [wipe_get h1] at this
      exact this
    · obtain ⟨v, hv, hd⟩ := R1.sl i _ h2
      exact ⟨v, hv, dp_ex e _ _ hd⟩
  ne := fun i j xs ys p n hi hj => by
    rcases restE_some (show (restE s1.e s.e vs)[i]? = _ from hi) with ⟨h1, h2⟩ | ⟨x, e, _⟩
    · rcases restE_some (show (restE s1.e s.e vs)[j]? = _ from hj) with ⟨h3, h4⟩ | ⟨x, e, _⟩
      · have := R.ne i j xs ys p n h2 h4
        rw [wipe_get h1, wipe_get h3] at this
        exact this
      · cases e
    · cases e
/-- one more thing is held by others; its content changes -/
theorem Rel.frame {p : Addr} {u : HO} (R : Rel K B Fr H0 s σ H) (h : H p = none) : Rel K B (upd Fr p u) H0 s σ (upd H p u) := by
  obtain ⟨h0, hf, hb, hs⟩ := R.none_of h
  have R' := R.new (o := u) h
  have up : ∀ q, q ≠ p → Fr q = none → upd Fr p u q = none := fun q n e => by rw [upd_ne n]; exact e
  refine { e0 := R'.e0, ef := ?_, dj := fun q w hq => ?_, box := fun q hq => ?_, len := R.len, bb := R.bb, sl := fun i w hi => ?_, ne := R.ne }
  · intro q w hq
    by_cases z : q = p
    · subst z
      rw [upd_same] at hq ⊢
      exact hq
    · rw [upd_ne z] at hq
      exact R'.ef q w hq
  · by_cases z : q = p
    · rw [z]; exact h0
    · rw [upd_ne z] at hq
      exact R.dj q w hq
  · obtain ⟨a, b, c⟩ := R'.box q hq
    exact ⟨a, up q (fun z => hb (by rw [hq, z])) b, c⟩
  · cases w with
    | own xs =>
      obtain ⟨q, vs, hu, h1, h2, h3, h4, h5⟩ := R'.sl i _ hi
      exact ⟨q, vs, hu, h1, up q (fun z => hs i xs hi (by rw [hu, z])) h2, h3, h4, h5⟩
    | d x => exact R'.sl i _ hi
    | bx => exact R'.sl i _ hi
theorem Rel.reframe {p : Addr} {u w : HO} (R : Rel K B (upd Fr p u) H0 s σ H) : Rel K B (upd Fr p w) H0 s σ (upd H p w) := by
  have h0 : H0 p = none := R.dj p u upd_same
  have no : ∀ q, upd Fr p u q = none → q ≠ p := fun q e z => by
    rw [z, upd_same] at e
    cases e
  have up : ∀ q, upd Fr p u q = none → upd Fr p w q = none := fun q e => by
    have n := no q e
    rw [upd_ne n] at e ⊢
    exact e
  refine { e0 := fun q x hq => ?_, ef := fun q x hq => ?_, dj := fun q x hq => ?_, box := fun q hq => ?_, len := R.len, bb := R.bb, sl := fun i x hi => ?_, ne := R.ne }
  · have n : q ≠ p := fun z => by rw [z, h0] at hq; cases hq
    rw [upd_ne n]
    exact R.e0 q x hq
  · by_cases z : q = p
    · subst z
      rw [upd_same] at hq ⊢
      exact hq
    · rw [upd_ne z] at hq ⊢
      exact R.ef q x (by rw [upd_ne z]; exact hq)
  · by_cases z : q = p
    · rw [z]; exact h0
    · rw [upd_ne z] at hq
      exact R.dj q x (by rw [upd_ne z]; exact hq)
  · obtain ⟨a, b, c⟩ := R.box q hq
    exact ⟨a, up q b, by rw [upd_ne (no q b)]; exact c⟩
  · cases x with
    | own xs =>
      obtain ⟨q, vs, hu, h1, h2, h3, h4, h5⟩ := R.sl i _ hi
      exact ⟨q, vs, hu, h1, up q h2, h3, by rw [upd_ne (no q h2)]; exact h4, h5⟩
    | d x => exact R.sl i _ hi
    | bx => exact R.sl i _ hi
theorem Rel.unframe {p : Addr} {u : HO} (R : Rel K B (upd Fr p u) H0 s σ H) (hf : Fr p = none) : Rel K B Fr H0 s σ H ∧ H0 p = none ∧ B ≠ some p ∧ H p = some u ∧ ∀ (i : Nat) ys, s.e[i]? = some (some (.own ys)) → σ[i]? ≠ some (some (.ref p)) := by
  have no : ∀ q, upd Fr p u q = none → q ≠ p ∧ Fr q = none := fun q e => by
    by_cases z : q = p
    · rw [z, upd_same] at e
      cases e
    · rw [upd_ne z] at e
      exact ⟨z, e⟩
  have up : ∀ q x, Fr q = some x → upd Fr p u q = some x := fun q x e => by
    rw [upd_ne (ne_of_none e hf)]
    exact e
  refine ⟨{ e0 := R.e0, ef := fun q x hq => R.ef q x (up q x hq), dj := fun q x hq => R.dj q x (up q x hq), box := fun q hq => ?_, len := R.len, bb := R.bb, sl := fun i x hi => ?_, ne := R.ne }, R.dj p u upd_same, fun z => ?_, R.ef p u upd_same, fun i ys hi z => ?_⟩
  · obtain ⟨a, b, c⟩ := R.box q hq
    exact ⟨a, (no q b).2, c⟩
  · cases x with
    | own xs =>
      obtain ⟨q, vs, hu, h1, h2, h3, h4, h5⟩ := R.sl i _ hi
      exact ⟨q, vs, hu, h1, (no q h2).2, h3, h4, h5⟩
    | d x => exact R.sl i _ hi
    | bx => exact R.sl i _ hi
  · exact (no p (R.box p z).2.1).1 rfl
  · obtain ⟨q, vs, hu, h1, h2, _⟩ := R.sl i _ hi
    rw [z] at hu
    cases hu
    exact (no p h2).1 rfl
theorem den_lc {wi : TI} {tg : TG} {fi : DIo} {fg : DG} {vs : List Nat} (hi : DenIo K vs wi fi) (hg : DenGw K vs tg fg) (ht : DenT K tt c) (hf : DenE K te f) : DenE K (tLc wi tg tt te vs) (dLc vs fi fg c f) := by
  intro B Fr H0 s σ H r s' R e Q k
  obtain ⟨⟨⟨xs, o⟩, s1⟩, e1, e⟩ := bind_some e
  obtain ⟨⟨out, sf⟩, e2, e⟩ := bind_some e
  have e : (if out.length < 100000 then some (RV.fresh out, (⟨restE s1.e sf.e vs, sf.b⟩ : SS)) else none) = some (r, s') := e
  have e2 : lcFold vs o xs fg c f xs (s1.wipe vs) = some (out, sf) := e2
  by_cases hl : out.length < 100000
  · rw [if_pos hl] at e
    obtain ⟨rfl, rfl⟩ := Prod.mk.inj (Option.some.inj e)
    refine hi B Fr H0 s σ H xs o s1 R e1 _ fun J H1 H01 G Y x1 R1 W hG => ?_
    intro Dl hD
    have hfr := (R1.none_of hD).2.1
    have chk : ∀ {ys : List PyData} {s2 : SS} {q : List PyData × SS}, lcFold vs o xs fg c f ys s2 = some q → Chk o xs s2 := fun {ys s2 q} h => by
      cases ys with
      | nil =>
        unfold lcFold at h
        split at h
        · assumption
        · cases h
      | cons y ys =>
        unfold lcFold at h
        split at h
        · assumption
        · cases h
    refine lc_it W (fun i Ha => ∃ H02 s2 acc ds rest, Ex H01 H02 ∧ Rel K B (upd Fr Dl (.lst acc)) H02 s2 (L2.wipe σ vs) Ha ∧ DpAll K H02 acc ds ∧ lcFold vs o xs fg c f (xs.drop i) s2 = some (rest, sf) ∧ ds ++ rest = out)
      ⟨H01, s1.wipe vs, [], [], out, Ex.refl _, (R1.wipe vs).frame hD, .nil, e2, rfl⟩ (fun i Ha _ hP => ?_) (fun i x Ha Hb hn hP y => ?_) fun Ha hP => ?_
    · obtain ⟨H02, s2, acc, ds, rest, x2, R2, da, ef, _⟩ := hP
      exact (hG _ Ha H02 s2 x2 R2 (chk ef)).1
    · obtain ⟨H02, s2, acc, ds, rest, x2, R2, da, ef, eo⟩ := hP
      have ck := chk ef
      obtain ⟨rfl, d, hd, dd⟩ := (hG _ Ha H02 s2 x2 R2 ck).2 i x Hb y
      have ed : xs.drop i = d :: xs.drop (i + 1) := by
        obtain ⟨hl, e9⟩ := List.getElem?_eq_some_iff.mp hd
        rw [← e9]
        exact List.drop_eq_getElem_cons hl
      rw [ed] at ef
      unfold lcFold at ef
      rw [if_pos ck] at ef
      obtain ⟨s3, e3, ef⟩ := bind_some ef
      obtain ⟨⟨b4, s4⟩, e4, ef⟩ := bind_some ef
      refine hg B _ H02 s2 _ Hb d x s3 R2 dd e3 _ fun σ3 H3 H03 x3 R3 ew => ⟨ew.trans ?_, ?_⟩
      · have : ∀ ws : List Nat, (∀ w ∈ ws, w ∈ vs) → L2.wipe (L2.wipe σ vs) ws = L2.wipe σ vs := by
          intro ws
          induction ws with
          | nil => intro _; rfl
          | cons w ws ih =>
            intro hm
            show (L2.wipe (L2.wipe σ vs) ws).set w none = _
            rw [ih fun u hu => hm u (List.mem_cons_of_mem _ hu)]
            have hw := hm w (List.mem_cons_self ..)
            clear ih hm
            have : ∀ us : List Nat, w ∈ us → (L2.wipe σ us).set w none = L2.wipe σ us := by
              intro us
              induction us with
              | nil => intro h; cases h
              | cons u us ih =>
                intro h
                show ((L2.wipe σ us).set u none).set w none = (L2.wipe σ us).set u none
                by_cases z : u = w
                · rw [z, List.set_set]
                · rw [List.set_comm _ _ z, ih (by
                    rcases List.mem_cons.mp h with q | q
                    · exact absurd q.symm z
                    · exact q)]
            exact this vs hw
        exact this vs fun _ h => h
      have ew' : L2.wipe σ3 vs = L2.wipe σ vs := by
        refine ew.trans ?_
        have : ∀ ws : List Nat, (∀ w ∈ ws, w ∈ vs) → L2.wipe (L2.wipe σ vs) ws = L2.wipe σ vs := by
          intro ws
          induction ws with
          | nil => intro _; rfl
          | cons w ws ih =>
            intro hm
            show (L2.wipe (L2.wipe σ vs) ws).set w none = _
            rw [ih fun u hu => hm u (List.mem_cons_of_mem _ hu)]
            have hw := hm w (List.mem_cons_self ..)
            clear ih hm
            have : ∀ us : List Nat, w ∈ us → (L2.wipe σ us).set w none = L2.wipe σ us := by
              intro us
              induction us with
              | nil => intro h; cases h
              | cons u us ih =>
                intro h
                show ((L2.wipe σ us).set u none).set w none = (L2.wipe σ us).set u none
                by_cases z : u = w
                · rw [z, List.set_set]
                · rw [List.set_comm _ _ z, ih (by
                    rcases List.mem_cons.mp h with q | q
                    · exact absurd q.symm z
                    · exact q)]
            exact this vs hw
        exact this vs fun _ h => h
      refine ht B _ H03 s3 σ3 H3 b4 s4 R3 e4 _ fun H4 H04 x4 R4 => ?_
      cases b4 with
      | false =>
        have R5 := R4.wipe vs
        rw [ew'] at R5
        exact ite_ff ⟨H04, s4.wipe vs, acc, ds, rest, (x2.trans x3).trans x4, R5, dpa_ex (x3.trans x4) _ _ da, ef, eo⟩
      | true =>
        obtain ⟨⟨r5, s5⟩, e5, ef⟩ := bind_some (show ((f s4).bind fun q => _) = _ from ef)
        obtain ⟨⟨d6, s6⟩, e6, ef⟩ := bind_some ef
        obtain ⟨⟨rest2, sf2⟩, e7, e8⟩ := map_some ef
        obtain ⟨rfl, rfl⟩ := Prod.mk.inj e8
        refine ite_tt (hf B _ H04 s4 σ3 H4 r5 s5 R4 e5 _ fun y5 H5 H05 x5 R5 q5 => ?_)
        obtain ⟨H06, x6, R6, q6⟩ := q5.hold R5
        obtain ⟨H07, x7, R7, q7⟩ := q6.take R6 e6
        have xx := ((x3.trans x4).trans x5).trans (x6.trans x7)
        refine ⟨acc, R7.ef Dl _ upd_same, ?_, H07, s6.wipe vs, acc ++ [y5], ds ++ [d6], rest2, x2.trans xx, ?_, dpa_app (dpa_ex xx _ _ da) (.cons q7 .nil), e7, ?_⟩
        · have h9 := dpa_len da
          rw [← eo, List.length_append] at hl
          exact sz_lt (by omega)
        · have R8 := (R7.wipe vs).reframe (w := .lst (acc ++ [y5]))
          rw [ew'] at R8
          exact R8
        · rw [← eo, List.append_assoc]
          rfl
    · obtain ⟨H02, s2, acc, ds, rest, x2, R2, da, ef, eo⟩ := hP
      rw [List.drop_length] at ef
      unfold lcFold at ef
      rw [if_pos (by
        split at ef
        · assumption
        · cases ef)] at ef
      obtain ⟨rfl, rfl⟩ := Prod.mk.inj (Option.some.inj ef)
      rw [List.append_nil] at eo
      subst eo
      obtain ⟨R3, h0, hb, hh, hs⟩ := R2.unframe hfr
      have R4 := R1.rest x2 R3
      refine k (.ref Dl) Ha H02 (x1.trans x2) R4 ⟨Dl, acc, rfl, h0, hfr, hb, hh, da, fun i ys hi z => ?_⟩
      rcases restE_some (show (restE s1.e s2.e vs)[i]? = _ from hi) with ⟨h1, h2⟩ | ⟨x, e, _⟩
      · exact hs i ys h2 (by rw [wipe_get h1]; exact z)
      · cases e
  · rw [if_neg hl] at e
    cases e
end
end XN

set_option maxRecDepth 100000
set_option maxHeartbeats 4000000
/-! what a comprehension walks; a slot's list changed; the box; defs -/
namespace XN
open PySem PySem.Spec PyProof.Rows L2 Evl

/-- xs.append(e) at slot i -/
def dApp (i : Nat) (f : DF) : DS := fun s => (s.at i).bind fun _ => (f s).bind fun p => (p.1.hold.take p.2).bind fun q => (q.2.at i).bind fun xs => if xs.length < 100000 then some (.nx, ⟨q.2.e.set i (some (.own (xs ++ [q.1]))), q.2.b⟩) else none
/-- xs.pop(e) at slot i -/
def dPop (i : Nat) (f : DF) : DF := fun s => (s.at i).bind fun _ => (f s).bind fun p => match p.1 with
  | .d (.int n) => (p.2.at i).bind fun xs => if 0 ≤ n ∧ n < 1000000000 then (xs[n.toNat]?).map fun x => (.d x, ⟨p.2.e.set i (some (.own (xs.eraseIdx n.toNat))), p.2.b⟩) else none
  | _ => none
/-- box[j] = e -/
def dBoxSet (i j : Nat) (f : DF) : DS := fun s => (f s).bind fun p => match p.1, p.2.e[i]? with
  | .d (.int n), some (some .bx) => if j < p.2.b.length then some (.nx, ⟨p.2.e, p.2.b.set j n⟩) else none
  | _, _ => none
section
variable {K : PySem.W.Frag} {B : Option Addr} {Fr H0 H0' H H' : Hp} {s s' : SS} {σ : L2.St} {v : V} {r : RV} {ta tb te : TE} {tt tu : TT} {tas : TA} {f g : DF} {c c' : DT} {fa : DA} {ts us : TS} {fs gs : DS} {D : Ends} {o : OutS}
theorem den_io {wi : TI} {fi : DI} (vs : List Nat) (h : DenI K wi fi) : DenIo K vs wi (dIo fi) := by
  intro B Fr H0 s σ H xs o s' R e Rw k
  obtain ⟨⟨ys, s1⟩, e1, e⟩ := map_some e
  obtain ⟨e2, rfl⟩ := Prod.mk.inj e
  obtain ⟨rfl, rfl⟩ := Prod.mk.inj e2
  refine h B Fr H0 s σ H ys s1 R e1 _ fun J H1 H01 G Y x1 R1 W hG hY => k J H1 H01 G Y x1 R1 W fun Fa Ha H0a sa xa Ra _ => ⟨hG Ha (xa.trans Ra.e0), fun i x Hb y => ?_⟩
  obtain ⟨a, d, hd, dd⟩ := hY i Ha x Hb (xa.trans Ra.e0) y
  exact ⟨a, d, hd, dp_ex xa _ _ dd⟩
theorem den_itv (vs : List Nat) (i : Nat) : DenIo K vs (iAny K (tVar i)) (dItV vs i) := by
  intro B Fr H0 s σ H xs o s' R e Rw k
  unfold dItV at e
  split at e
  · rename_i x hx
    obtain ⟨ys, e1, e⟩ := map_some e
    obtain ⟨e2, rfl⟩ := Prod.mk.inj e
    obtain ⟨rfl, rfl⟩ := Prod.mk.inj e2
    refine den_items (f := dV i) (den_v i) B Fr H0 s σ H ys s R ?_ _ fun J H1 H01 G Y x1 R1 W hG hY => k J H1 H01 G Y x1 R1 W fun Fa Ha H0a sa xa Ra _ => ⟨hG Ha (xa.trans Ra.e0), fun i x Hb y => ?_⟩
    · unfold dItems dV
      rw [hx]
      show ((items x).map fun xs => (xs, s)) = _
      rw [e1]
      rfl
    · obtain ⟨a, d, hd, dd⟩ := hY i Ha x Hb (xa.trans Ra.e0) y
      exact ⟨a, d, hd, dp_ex xa _ _ dd⟩
  · rename_i ys hx
    by_cases hi : i ∈ vs
    · rw [if_pos hi] at e
      cases e
    · rw [if_neg hi] at e
      obtain ⟨e2, rfl⟩ := Prod.mk.inj (Option.some.inj e)
      obtain ⟨rfl, rfl⟩ := Prod.mk.inj e2
      obtain ⟨p, ws, hp, _, _, _, hh, hd⟩ := R.sl i _ hx
      refine ⟨_, hp, .inl ⟨p, rfl, ⟨ws, sq_of hh⟩, k (Itl K p) H H0 (fun Ha => ∃ us, Ha p = some (.lst us) ∧ us.length = ys.length) (fun j Ha x Hb => Hb = Ha ∧ ∀ us, SqL K Ha p us → us[j]? = some x) (Ex.refl _) R ?_ ?_⟩⟩
      · exact ⟨fun j Ha hj q => by
          obtain ⟨us, h1, h2⟩ := q
          exact ⟨us, us[j]'(by omega), sq_of h1, by simp [show j < us.length by omega]⟩, fun Ha q => by
          obtain ⟨us, h1, h2⟩ := q
          exact ⟨us, sq_of h1, by omega⟩, fun _ _ _ _ _ _ y => y⟩
      · intro Fa Ha H0a sa xa Ra ck
        obtain ⟨q, us, hq, _, _, _, hha, hda⟩ := Ra.sl i _ (at_of (ck i rfl))
        rw [wipe_get hi, hp] at hq
        cases hq
        refine ⟨⟨us, hha, dpa_len hda⟩, fun j x Hb y => ⟨y.1, ?_⟩⟩
        have hx := y.2 us (sq_of hha)
        have hj : j < ys.length := by
          rw [← dpa_len hda]
          exact (List.getElem?_eq_some_iff.mp hx).1
        obtain ⟨w, hw, dw⟩ := dpa_get hda (List.getElem?_eq_getElem hj)
        rw [hx] at hw
        cases hw
        exact ⟨_, List.getElem?_eq_getElem hj, dw⟩
  · cases e
theorem den_nameW {vs : List Nat} {i : Nat} (hi : i ∈ vs) : DenGw K vs (gName i) (dName i) := by
  intro B Fr H0 s σ H x v s' R d e Q k
  unfold dName at e
  by_cases il : i < s.e.length
  · rw [if_pos il] at e
    obtain rfl := Option.some.inj e
    exact k _ H H0 (Ex.refl _) (R.putW (by rw [← R.len]; exact il) ⟨v, rfl, d⟩ fun _ z => nomatch z) (wipe_set hi)
  · rw [if_neg il] at e
    cases e
theorem den_yes : DenT K tYes dYes := by
  intro B Fr H0 s σ H b s' R e Q k
  obtain ⟨rfl, rfl⟩ := Prod.mk.inj (Option.some.inj e)
  exact k H H0 (Ex.refl _) R
/-- slot i's list takes another content -/
theorem Rel.store {i : Nat} {xs ys : List PyData} {p : Addr} {us : List V} (R : Rel K B Fr H0 s σ H) (hi : s.e[i]? = some (some (.own xs))) (hp : σ[i]? = some (some (.ref p))) (d : DpAll K H0 us ys) : Rel K B Fr H0 ⟨s.e.set i (some (.own ys)), s.b⟩ σ (upd H p (.lst us)) := by
  obtain ⟨q, vs, hu, h1, h2, h3, h4, h5⟩ := R.sl i _ hi
  rw [hp] at hu
  cases hu
  have il : i < s.e.length := (List.getElem?_eq_some_iff.mp hi).1
  have get : ∀ (j : Nat) (w : SV), (s.e.set i (some (.own ys)))[j]? = some (some w) → (j = i ∧ w = .own ys) ∨ (j ≠ i ∧ s.e[j]? = some (some w)) := by
    intro j w hj
    by_cases z : i = j
    · subst z
      rw [List.getElem?_set_self il] at hj
      cases hj
      exact .inl ⟨rfl, rfl⟩
    · rw [List.getElem?_set_ne z] at hj
      exact .inr ⟨fun e => z e.symm, hj⟩
  refine { e0 := R.e0.mut h1, ef := R.ef.mut h2, dj := R.dj, box := fun q hq => ?_, len := (List.length_set ..).trans R.len, bb := R.bb, sl := fun j w hj => ?_, ne := fun j k as bs q n gj gk pj pk => ?_ }
  · obtain ⟨a, b, c⟩ := R.box q hq
    exact ⟨a, b, by rw [upd_ne (fun z => h3 (by rw [hq, z]))]; exact c⟩
  · rcases get j w hj with ⟨rfl, rfl⟩ | ⟨n, hj⟩
    · exact ⟨p, us, hp, h1, h2, h3, upd_same, d⟩
    · cases w with
      | own as =>
        obtain ⟨q, ws, hu, k1, k2, k3, k4, k5⟩ := R.sl j _ hj
        exact ⟨q, ws, hu, k1, k2, k3, by rw [upd_ne (fun z => R.ne j i as xs q n hj hi hu (by rw [hp, z]))]; exact k4, k5⟩
      | d x => exact R.sl j _ hj
      | bx => exact R.sl j _ hj
  · rcases get j _ gj with ⟨z, _⟩ | ⟨n1, hj⟩
    · rcases get k _ gk with ⟨z2, _⟩ | ⟨n2, hk⟩
      · exact n (z.trans z2.symm)
      · rw [z] at pj
        exact R.ne i k xs bs q n2.symm hi hk pj pk
    · rcases get k _ gk with ⟨z2, _⟩ | ⟨n2, hk⟩
      · rw [z2] at pk
        exact R.ne j i as xs q n1 hj hi pj pk
      · exact R.ne j k as bs q n hj hk pj pk
theorem den_app {i : Nat} (h : DenE K te f) : DenS K (tDrop (tBM K "list" rAppend (tVar i) (tCons te tNil))) (dApp i f) := by
  intro B Fr H0 s σ H o s' R e D k
  obtain ⟨ys, e0, e⟩ := bind_some e
  obtain ⟨⟨r1, s1⟩, e1, e⟩ := bind_some e
  obtain ⟨⟨x, s2⟩, e2, e⟩ := bind_some e
  obtain ⟨xs, e3, e⟩ := bind_some e
  have e : (if xs.length < 100000 then some (OutS.nx, (⟨s2.e.set i (some (.own (xs ++ [x]))), s2.b⟩ : SS)) else none) = some (o, s') := e
  by_cases hl : xs.length < 100000
  · rw [if_pos hl] at e
    obtain ⟨rfl, rfl⟩ := Prod.mk.inj (Option.some.inj e)
    obtain ⟨p, ws, hp, _, _, _, hh, _⟩ := R.sl i _ (at_of e0)
    refine ⟨.ref p, hp, .inl ⟨rfl, ws, sq_of hh⟩, h B Fr H0 s σ H r1 s1 R e1 _ fun v1 H1 H01 x1 R1 q1 => ?_⟩
    obtain ⟨H02, x2, R2, q2⟩ := q1.hold R1
    obtain ⟨H03, x3, R3, d3⟩ := q2.take R2 e2
    obtain ⟨q, us, hq, _, _, _, hhq, da⟩ := R3.sl i _ (at_of e3)
    rw [hp] at hq
    cases hq
    refine ⟨p, us, v1, rfl, rfl, hhq, sz_lt (by rw [dpa_len da]; exact hl), ?_⟩
    exact k σ _ H03 ((x1.trans x2).trans x3) (R3.store (at_of e3) hp (dpa_app da (.cons d3 .nil)))
  · rw [if_neg hl] at e
    cases e
theorem vget {α : Type} {xs : List α} {n : Nat} (h : n < xs.length) : xs.eraseIdx n = xs.take n ++ xs.drop (n + 1) := List.eraseIdx_eq_take_drop_succ xs n
theorem den_pop {i : Nat} (h : DenE K te f) : DenE K (tBM K "list" rPopAt (tVar i) (tCons te tNil)) (dPop i f) := by
  intro B Fr H0 s σ H r s' R e Q k
  obtain ⟨ys, e0, e⟩ := bind_some e
  obtain ⟨⟨r1, s1⟩, e1, e⟩ := bind_some e
  dsimp only at e
  split at e
  · rename_i n
    obtain ⟨xs, e3, e⟩ := bind_some e
    by_cases hn : 0 ≤ n ∧ n < 1000000000
    · rw [if_pos hn] at e
      obtain ⟨x, e4, e5⟩ := map_some e
      obtain ⟨rfl, rfl⟩ := Prod.mk.inj e5
      obtain ⟨p, ws, hp, _, _, _, hh, _⟩ := R.sl i _ (at_of e0)
      refine ⟨.ref p, hp, .inl ⟨rfl, ws, sq_of hh⟩, h B Fr H0 s σ H _ s1 R e1 _ fun v1 H1 H01 x1 R1 q1 => ?_⟩
      cases q1
      obtain ⟨q, us, hq, _, _, _, hhq, da⟩ := R1.sl i _ (at_of e3)
      rw [hp] at hq
      cases hq
      obtain ⟨y, hy, dy⟩ := dpa_get da e4
      have il : n.toNat < us.length := (List.getElem?_eq_some_iff.mp hy).1
      have ix : seqIndex? n us.length = some n.toNat := by
        unfold seqIndex?
        rw [if_neg (by omega : ¬ n < 0)]
        dsimp only
        rw [if_pos (by rw [Bool.and_eq_true]; exact ⟨decide_eq_true hn.1, decide_eq_true (by omega)⟩)]
      refine ⟨p, us, n, n.toNat, y, rfl, rfl, hhq, by omega, by omega, ix, hy, ?_⟩
      refine k y _ H01 x1 (R1.store (at_of e3) hp ?_) dy
      rw [vget il, vget (List.getElem?_eq_some_iff.mp e4).1]
      exact dpa_app (dpa_take _ da) (dpa_drop _ da)
    · rw [if_neg hn] at e
      cases e
  · cases e
theorem set_ne_nil {l : List Int} {j : Nat} {n : Int} (h : j < l.length) (z : l.set j n = []) : False := by
  have := congrArg List.length z
  rw [List.length_set, List.length_nil] at this
  omega
theorem den_boxSet {i j : Nat} {ti : TE} (hi : DenE K ti (dC (.int j))) (h : DenE K te f) : DenS K (tAsg te (gSub (tVar i) ti rSetL)) (dBoxSet i j f) := by
  intro B Fr H0 s σ H o s' R e D k
  obtain ⟨⟨r1, s1⟩, e1, e⟩ := bind_some e
  dsimp only at e
  split at e
  · rename_i n hb
    by_cases hj : j < s1.b.length
    · rw [if_pos hj] at e
      obtain ⟨rfl, rfl⟩ := Prod.mk.inj (Option.some.inj e)
      refine h B Fr H0 s σ H _ s1 R e1 _ fun v1 H1 H01 x1 R1 q1 => ?_
      cases q1
      obtain ⟨p, hB, hp⟩ := R1.sl i _ hb
      refine ⟨.ref p, hp, hi B Fr H01 s1 σ H1 _ s1 R1 rfl _ fun v2 H2 H02 x2 R2 q2 => ?_⟩
      cases q2
      obtain ⟨b0, bf, bh⟩ := R2.box p hB
      refine ⟨p, s1.b.map V.int, j, j, rfl, rfl, bh, ixN_nat (by rw [List.length_map]; exact hj), ?_⟩
      rw [← List.map_set]
      refine k σ _ H02 (x1.trans x2) { e0 := R2.e0.mut b0, ef := R2.ef.mut bf, dj := R2.dj, box := fun q hq => ?_, len := R2.len, bb := fun z => (set_ne_nil hj z).elim, sl := fun l w hl => ?_, ne := R2.ne }
      · obtain rfl := Option.some.inj (hB.symm.trans hq)
        exact ⟨b0, bf, upd_same⟩
      · cases w with
        | own as =>
          obtain ⟨q, ws, hu, k1, k2, k3, k4, k5⟩ := R2.sl l _ hl
          exact ⟨q, ws, hu, k1, k2, k3, by rw [upd_ne (fun z => k3 (by rw [hB, z]))]; exact k4, k5⟩
        | d x => exact R2.sl l _ hl
        | bx => exact R2.sl l _ hl
    · rw [if_neg hj] at e
      cases e
  · cases e
end
end XN

set_option maxRecDepth 100000
set_option maxHeartbeats 4000000
/-! defs on data, their calls -/
namespace XN
open PySem PySem.Spec PyProof.Rows L2 Evl

abbrev DFun := List SV → List Int → Option (SV × List Int)
def isArg : SV → Bool
  | .own _ => false
  | _ => true
def spD (K : PySem.W.Frag) (n : Nat) (F : DFun) : Sp := fun vs H Q _ => ∃ (B : Option Addr) (Fr H0 : Hp) (as : List SV) (b : List Int) (r : SV) (b' : List Int),
  Rel K B Fr H0 ⟨as.map some, b⟩ (vs.map some) H ∧ vs.length = n ∧ F as b = some (r, b') ∧ ∀ v H' H0', Ex H0 H0' → Rel K B Fr H0' ⟨[some r], b'⟩ [some v] H' → Q v H'
def RV.ret (s : SS) : RV → Option SV
  | .d x => some (.d x)
  | .fresh xs => some (.own xs)
  | .sl i => (s.at i).map .own
  | .bx => some .bx
def SV.rv : SV → RV
  | .d x => .d x
  | .own xs => .fresh xs
  | .bx => .bx
/-- a def of m further names -/
def defOf (m : Nat) (g : DS) : DFun := fun as b => (g ⟨as.map some ++ List.replicate m none, b⟩).bind fun p => match p.1 with
  | .nx => some (.d .none, p.2.b)
  | .rt r => (r.ret p.2).map fun w => (w, p.2.b)
  | _ => none
def argAll : List RV → SS → Option (List SV × SS)
  | [], s => some ([], s)
  | .bx :: rs, s => (argAll rs s).map fun q => (.bx :: q.1, q.2)
  | r :: rs, s => (r.take s).bind fun p => (argAll rs p.2).map fun q => (.d p.1 :: q.1, q.2)
def dCall (F : DFun) (fa : DA) : DF := fun s => (fa s).bind fun p => (argAll p.1 p.2).bind fun q => (F q.1 q.2.b).map fun r => (r.1.rv, ⟨q.2.e, r.2⟩)
section
variable {K : PySem.W.Frag} {B : Option Addr} {Fr H0 H0' H H' : Hp} {s s' : SS} {σ : L2.St} {v : V} {r : RV} {ta tb te : TE} {tt tu : TT} {tas : TA} {f g : DF} {c c' : DT} {fa : DA} {ts us : TS} {fs gs : DS} {D : Ends} {o : OutS}
theorem Res.ret {w : SV} (R : Rel K B Fr H0 s σ H) (h : Res K B Fr H0 s σ H v r) (e : r.ret s = some w) : Rel K B Fr H0 ⟨[some w], s.b⟩ [some v] H := by
  have one : ∀ w, SlotIs K B Fr H0 H (some (some v)) w → Rel K B Fr H0 ⟨[some w], s.b⟩ [some v] H := fun w hw =>
    { e0 := R.e0, ef := R.ef, dj := R.dj, box := R.box, len := rfl, bb := R.bb,
      sl := fun i u hi => by
        cases i with
        | zero =>
          cases hi
          exact hw
        | succ i => cases hi
      ne := fun i j xs ys p n hi hj => by
        cases i with
        | zero =>
          cases j with
          | zero => exact absurd rfl n
          | succ j => cases hj
        | succ i => cases hi }
  cases r with
  | d x =>
    obtain rfl := Option.some.inj e
    exact one _ ⟨v, rfl, h⟩
  | fresh xs =>
    obtain rfl := Option.some.inj e
    obtain ⟨p, vs, rfl, h1, h2, h3, h4, h5, _⟩ := h
    exact one _ ⟨p, vs, rfl, h1, h2, h3, h4, h5⟩
  | sl i =>
    obtain ⟨xs, he, rfl⟩ := map_some e
    have := R.sl i _ (at_of he)
    rw [h.1] at this
    exact one _ this
  | bx =>
    obtain rfl := Option.some.inj e
    obtain ⟨p, hp, rfl⟩ := h
    exact one _ ⟨p, hp, rfl⟩
theorem getElem?_app_none {α : Type} {as : List α} {m i : Nat} {w : α} (h : (as.map some ++ List.replicate m none)[i]? = some (some w)) : as[i]? = some w := by
  by_cases hi : i < as.length
  · rw [List.getElem?_append_left (by rw [List.length_map]; exact hi), List.getElem?_map] at h
    obtain ⟨a, ha, e⟩ := Option.map_eq_some_iff.mp h
    rw [ha, Option.some.inj e]
  · rw [List.getElem?_append_right (by rw [List.length_map]; omega), List.getElem?_replicate] at h
    split at h
    · cases Option.some.inj h
    · cases h
theorem Rel.start {as : List SV} {b : List Int} {vs : List V} (R : Rel K B Fr H0 ⟨as.map some, b⟩ (vs.map some) H) (m : Nat) : Rel K B Fr H0 ⟨as.map some ++ List.replicate m none, b⟩ (vs.map some ++ List.replicate m none) H where
  e0 := R.e0
  ef := R.ef
  dj := R.dj
  box := R.box
  bb := R.bb
  len := by
    have := R.len
    show (as.map some ++ List.replicate m none).length = _
    rw [List.length_append, List.length_append, List.length_replicate, List.length_replicate]
    exact congrArg (· + m) this
  sl := fun i w hi => by
    have h1 := getElem?_app_none (show (as.map some ++ List.replicate m none)[i]? = _ from hi)
    have h2 : (as.map some)[i]? = some (some w) := by rw [List.getElem?_map, h1]; rfl
    have h3 : i < (vs.map some).length := by
      have := R.len
      rw [← this]
      exact (List.getElem?_eq_some_iff.mp h2).1
    rw [List.getElem?_append_left h3]
    exact R.sl i w h2
  ne := fun i j xs ys p n hi hj pi pj => by
    have h1 := getElem?_app_none (show (as.map some ++ List.replicate m none)[i]? = _ from hi)
    have h2 : (as.map some)[i]? = some (some (.own xs)) := by rw [List.getElem?_map, h1]; rfl
    have h3 : i < (vs.map some).length := by
      have := R.len
      rw [← this]
      exact (List.getElem?_eq_some_iff.mp h2).1
    have k1 := getElem?_app_none (show (as.map some ++ List.replicate m none)[j]? = _ from hj)
    have k2 : (as.map some)[j]? = some (some (.own ys)) := by rw [List.getElem?_map, k1]; rfl
    have k3 : j < (vs.map some).length := by
      have := R.len
      rw [← this]
      exact (List.getElem?_eq_some_iff.mp k2).1
    rw [List.getElem?_append_left h3] at pi
    rw [List.getElem?_append_left k3] at pj
    exact R.ne i j xs ys p n h2 k2 pi pj
theorem den_def {n m : Nat} {vs : List V} {Q : VK} {E : XK} (hb : DenS K ts fs) (h : spD K n (defOf m fs) vs H Q E) : ts { nx := fun _ H' => Q .non H', rt := Q } (vs.map some ++ List.replicate m none) H := by
  obtain ⟨B, Fr, H0, as, b, r, b', R, hn, e, q⟩ := h
  obtain ⟨⟨o, s1⟩, e1, e⟩ := bind_some e
  refine hb B Fr H0 _ _ H o s1 (R.start m) e1 _ ?_
  cases o with
  | nx =>
    obtain ⟨rfl, rfl⟩ := Prod.mk.inj (Option.some.inj e)
    intro σ' H' H1 x R1
    refine q _ _ H1 x ?_
    exact Res.ret (r := .d .none) R1 Dp.non rfl
  | bk => cases e
  | ct => cases e
  | rt r1 =>
    obtain ⟨w, e2, e3⟩ := map_some (show (r1.ret s1).map _ = _ from e)
    obtain ⟨rfl, rfl⟩ := Prod.mk.inj e3
    exact fun v σ' H' H1 x R1 q1 => q v H' H1 x (Res.ret R1 q1 e2)
/-- what a def is handed -/
inductive ArgIs (K : PySem.W.Frag) (B : Option Addr) (H0 : Hp) : List V → List SV → Prop
  | nil : ArgIs K B H0 [] []
  | d {v : V} {x : PyData} {vs : List V} {as : List SV} : Dp K H0 v x → ArgIs K B H0 vs as → ArgIs K B H0 (v :: vs) (.d x :: as)
  | bx {p : Addr} {vs : List V} {as : List SV} : B = some p → ArgIs K B H0 vs as → ArgIs K B H0 (.ref p :: vs) (.bx :: as)
theorem ArgIs.len : ∀ {vs : List V} {as : List SV}, ArgIs K B H0 vs as → as.length = vs.length
  | _, _, .nil => rfl
  | _, _, .d _ t => congrArg Nat.succ t.len
  | _, _, .bx _ t => congrArg Nat.succ t.len
theorem ArgIs.up (e : Ex H0 H0') : ∀ {vs : List V} {as : List SV}, ArgIs K B H0 vs as → ArgIs K B H0' vs as
  | _, _, .nil => .nil
  | _, _, .d h t => .d (dp_ex e _ _ h) (ArgIs.up e t)
  | _, _, .bx h t => .bx h (ArgIs.up e t)
theorem ArgIs.get : ∀ {vs : List V} {as : List SV} {i : Nat} {w : SV}, ArgIs K B H0 vs as → (as.map some)[i]? = some (some w) → (∃ x v, w = .d x ∧ (vs.map some)[i]? = some (some v) ∧ Dp K H0 v x) ∨ ∃ p, w = .bx ∧ B = some p ∧ (vs.map some)[i]? = some (some (.ref p))
  | _, _, i, w, .nil, h => by simp at h
  | _, _, 0, w, .d (v := v) (x := x) h t, e => by
    cases e
    exact .inl ⟨x, v, rfl, rfl, h⟩
  | _, _, 0, w, .bx (p := p) h t, e => by
    cases e
    exact .inr ⟨p, rfl, h, rfl⟩
  | _, _, i + 1, w, .d _ t, e => ArgIs.get (i := i) t e
  | _, _, i + 1, w, .bx _ t, e => ArgIs.get (i := i) t e
theorem HeldAll.args : ∀ {vs : List V} {rs : List RV} {as : List SV} {s s' : SS} {H0 : Hp}, Rel K B Fr H0 s σ H → HeldAll K B H0 σ vs rs → argAll rs s = some (as, s') → ∃ H0', Ex H0 H0' ∧ Rel K B Fr H0' s' σ H ∧ ArgIs K B H0' vs as
  | _, _, _, _, _, _, R, .nil, e => by
    obtain ⟨rfl, rfl⟩ := Prod.mk.inj (Option.some.inj e)
    exact ⟨_, Ex.refl _, R, .nil⟩
  | _, _, _, _, _, _, R, .cons (r := .bx) h t, e => by
    obtain ⟨⟨as, s2⟩, e3, e4⟩ := map_some (show (argAll _ _).map _ = _ from e)
    obtain ⟨rfl, rfl⟩ := Prod.mk.inj e4
    obtain ⟨p, hp, rfl⟩ := h
    obtain ⟨H2, x2, R2, d2⟩ := HeldAll.args R t e3
    exact ⟨H2, x2, R2, .bx hp d2⟩
  | _, _, _, _, _, _, R, .cons (r := .d y) h t, e => by
    obtain ⟨⟨x, s1⟩, e1, e2⟩ := bind_some (show ((RV.d y).take _).bind _ = _ from e)
    obtain ⟨⟨as, s2⟩, e3, e4⟩ := map_some e2
    obtain ⟨rfl, rfl⟩ := Prod.mk.inj e4
    obtain ⟨H1, x1, R1, d1⟩ := h.take R e1
    obtain ⟨H2, x2, R2, d2⟩ := HeldAll.args R1 (t.up x1) e3
    exact ⟨H2, x1.trans x2, R2, .d (dp_ex x2 _ _ d1) d2⟩
  | _, _, _, _, _, _, R, .cons (r := .sl i) h t, e => by
    obtain ⟨⟨x, s1⟩, e1, e2⟩ := bind_some (show ((RV.sl i).take _).bind _ = _ from e)
    obtain ⟨⟨as, s2⟩, e3, e4⟩ := map_some e2
    obtain ⟨rfl, rfl⟩ := Prod.mk.inj e4
    obtain ⟨H1, x1, R1, d1⟩ := h.take R e1
    obtain ⟨H2, x2, R2, d2⟩ := HeldAll.args R1 (t.up x1) e3
    exact ⟨H2, x1.trans x2, R2, .d (dp_ex x2 _ _ d1) d2⟩
  | _, _, _, _, _, _, R, .cons (r := .fresh xs) h t, e => h.elim
open Classical in
/-- the caller's own lists are others' things for the called def -/
noncomputable def lend (Fr : Hp) (s : SS) (σ : L2.St) (H : Hp) : Hp := fun a => if ∃ (i : Nat) (xs : List PyData), s.e[i]? = some (some (.own xs)) ∧ σ[i]? = some (some (.ref a)) then H a else Fr a
theorem den_call {n : Nat} {F : DFun} {E : XK} (h : DenA K tas fa) (hn : ∀ s p, fa s = some p → p.1.length = n) : DenE K (tCall (spD K n F) [] E tas) (dCall F fa) := by
  intro B Fr H0 s σ H r s' R e Q k
  obtain ⟨⟨rs, s1⟩, e1, e⟩ := bind_some e
  obtain ⟨⟨as, s2⟩, e2, e⟩ := bind_some e
  obtain ⟨⟨w, b'⟩, e3, e4⟩ := map_some e
  obtain ⟨rfl, rfl⟩ := Prod.mk.inj e4
  refine h B Fr H0 s σ H rs s1 R e1 _ fun vs H1 H01 x1 R1 q1 => ?_
  obtain ⟨H02, x2, R2, q2⟩ := q1.args R1 e2
  have own : ∀ (i : Nat) (xs : List PyData) (p : Addr), s2.e[i]? = some (some (.own xs)) → σ[i]? = some (some (.ref p)) → lend Fr s2 σ H1 p = H1 p := fun i xs p hi hp => by
    unfold lend
    rw [if_pos ⟨i, xs, hi, hp⟩]
  have other : ∀ p, (∀ (i : Nat) (xs : List PyData), s2.e[i]? = some (some (.own xs)) → σ[i]? ≠ some (some (.ref p))) → lend Fr s2 σ H1 p = Fr p := fun p hp => by
    unfold lend
    rw [if_neg (fun ⟨i, xs, hi, q⟩ => hp i xs hi q)]
  have held : ∀ (i : Nat) (xs : List PyData) (p : Addr), s2.e[i]? = some (some (.own xs)) → σ[i]? = some (some (.ref p)) → ∃ ws, H02 p = none ∧ Fr p = none ∧ B ≠ some p ∧ H1 p = some (.lst ws) ∧ DpAll K H02 ws xs := fun i xs p hi hp => by
    obtain ⟨q, ws, hq, a, b, c, d, e⟩ := R2.sl i _ hi
    rw [hp] at hq
    cases hq
    exact ⟨ws, a, b, c, d, e⟩
  have frOf : ∀ p u, Fr p = some u → lend Fr s2 σ H1 p = some u := fun p u hu => by
    rw [other p fun i xs hi hp => ?_]
    · exact hu
    · obtain ⟨ws, _, b, _⟩ := held i xs p hi hp
      rw [b] at hu
      cases hu
  have frNo : ∀ p, lend Fr s2 σ H1 p = none → Fr p = none ∧ ∀ (i : Nat) (xs : List PyData), s2.e[i]? = some (some (.own xs)) → σ[i]? ≠ some (some (.ref p)) := fun p hp => by
    have hs : ∀ (i : Nat) (xs : List PyData), s2.e[i]? = some (some (.own xs)) → σ[i]? ≠ some (some (.ref p)) := fun i xs hi hq => by
      obtain ⟨ws, _, _, _, d, _⟩ := held i xs p hi hq
      rw [own i xs p hi hq, d] at hp
      cases hp
    rw [other p hs] at hp
    exact ⟨hp, hs⟩
  have lk : ∀ p u, lend Fr s2 σ H1 p = some u → (∃ (i : Nat) (xs : List PyData), s2.e[i]? = some (some (.own xs)) ∧ σ[i]? = some (some (.ref p))) ∨ Fr p = some u := fun p u hp => by
    by_cases z : ∃ (i : Nat) (xs : List PyData), s2.e[i]? = some (some (.own xs)) ∧ σ[i]? = some (some (.ref p))
    · exact .inl z
    · rw [other p fun i xs hi hq => z ⟨i, xs, hi, hq⟩] at hp
      exact .inr hp
  show spD K n F (vs ++ []) H1 Q E
  rw [List.append_nil]
  have hl : vs.length = n := by
    have h1 : rs.length = n := hn s (rs, s1) e1
    have : ∀ {vs : List V} {rs : List RV}, HeldAll K B H01 σ vs rs → vs.length = rs.length := by
      intro vs rs h
      induction h with
      | nil => rfl
      | cons _ _ ih => exact congrArg Nat.succ ih
    rw [this q1, h1]
  refine ⟨B, lend Fr s2 σ H1, H02, as, s2.b, w, b', ?_, hl, e3, fun v H' H0' x3 R3 => ?_⟩
  · refine { e0 := R2.e0, ef := fun p u hp => ?_, dj := fun p u hp => ?_, box := fun p hp => ?_, len := ?_, bb := R2.bb, sl := fun i u hi => ?_, ne := fun i j xs ys p hne hi hj => ?_ }
    · rcases lk p u hp with ⟨i, xs, hi, hq⟩ | hf
      · rw [own i xs p hi hq] at hp
        exact hp
      · exact R2.ef p u hf
    · rcases lk p u hp with ⟨i, xs, hi, hq⟩ | hf
      · obtain ⟨ws, a, _⟩ := held i xs p hi hq
        exact a
      · exact R2.dj p u hf
    · obtain ⟨a, b, c⟩ := R2.box p hp
      refine ⟨a, ?_, c⟩
      rw [other p fun i xs hi hq => ?_]
      · exact b
      · obtain ⟨ws, _, _, d, _⟩ := held i xs p hi hq
        exact d hp
    · show (as.map some).length = (vs.map some).length
      rw [List.length_map, List.length_map]
      exact q2.len
    · rcases q2.get hi with ⟨x, v, rfl, hv, hd⟩ | ⟨p, rfl, hp, hv⟩
      · exact ⟨v, hv, hd⟩
      · exact ⟨p, hp, hv⟩
    · rcases q2.get hi with ⟨x, v, z, _⟩ | ⟨p, z, _⟩ <;> cases z
  · have Rc : Rel K B Fr H0' ⟨s2.e, b'⟩ σ H' := by
      refine { e0 := R3.e0, ef := fun p u hp => R3.ef p u (frOf p u hp), dj := fun p u hp => R3.dj p u (frOf p u hp), box := fun p hp => ?_, len := R2.len, bb := R3.bb, sl := fun i u hi => ?_, ne := R2.ne }
      · obtain ⟨a, b, c⟩ := R3.box p hp
        exact ⟨a, (frNo p b).1, c⟩
      · cases u with
        | d x =>
          obtain ⟨v, hv, hd⟩ := R2.sl i _ hi
          exact ⟨v, hv, dp_ex x3 _ _ hd⟩
        | own xs =>
          obtain ⟨p, ws, hp, a, b, c, d, e⟩ := R2.sl i _ hi
          have hp2 : lend Fr s2 σ H1 p = some (.lst ws) := by
            rw [own i xs p hi hp]
            exact d
          exact ⟨p, ws, hp, R3.dj p _ hp2, b, c, R3.ef p _ hp2, dpa_ex x3 _ _ e⟩
        | bx => exact R2.sl i _ hi
    refine k v H' H0' ((x1.trans x2).trans x3) Rc ?_
    cases w with
    | d x =>
      obtain ⟨u, hu, hd⟩ := R3.sl 0 _ rfl
      cases hu
      exact hd
    | own xs =>
      obtain ⟨p, ws, hu, a, b, c, d, e⟩ := R3.sl 0 _ rfl
      cases hu
      exact ⟨p, ws, rfl, a, (frNo p b).1, c, d, e, fun i ys hi => (frNo p b).2 i ys hi⟩
    | bx =>
      obtain ⟨p, hp, hu⟩ := R3.sl 0 _ rfl
      cases hu
      exact ⟨p, hp, rfl⟩
end
end XN

set_option maxRecDepth 100000
set_option maxHeartbeats 4000000
/-! operators on data -/
namespace XN
open PySem PySem.Spec PyProof.Rows L2 Evl

/-- list + list, whatever stands in the lists' slots -/
theorem list_add_any (l b : Addr) (xs ys : Array Value) (n m : Nat) (sl tl : Array (Option Value)) (hc : xs.size + ys.size ≤ sizeLine) :
    Meets (Builtin.«list.__add__» ⟨[.ref l, .ref b], []⟩) (fun _ R s => s.heap.get? l = some ⟨.type "list", .none, .seq xs n, sl⟩ ∧ s.heap.get? b = some ⟨.type "list", .none, .seq ys m, tl⟩ ∧
      R (.ok (.ret (.ref s.heap.objs.size))) { s with heap := s.heap.push { cls := .type "list", data := .seq (xs ++ ys) } }) :=
  .of_wp fun prog w A R s h => by
    obtain ⟨hp, g, d, tk, os⟩ := s
    obtain ⟨hl, hb, h⟩ := h
    have hc0 := hc
    have same := sub_list_list
    wp_walk using wpAny_loadPart' hl, wpAny_loadPart' hb
    exact ⟨_, rfl, h⟩
theorem add_lists {prog : Program} {w : World} {A : Around} {E : Value → Shared → Prop} {s : Shared} {l b : Addr} {xs ys : Array Value} {Q : Value → Shared → Prop} (hl : PlainL s.heap l xs) (hb : PlainL s.heap b ys) (hc : xs.size + ys.size ≤ sizeLine)
    (h : Q (.ref s.heap.objs.size) { s with heap := s.heap.push { cls := .type "list", data := .seq (xs ++ ys) } }) : wpAny (model prog w) A (binaryOp .Add (.ref l) (.ref b)) Q E s := by
  obtain ⟨⟨c1, d1, a1, s1⟩, n1, h1, e1, f1, g1⟩ := hl
  obtain ⟨⟨c2, d2, a2, s2⟩, n2, h2, e2, f2, g2⟩ := hb
  simp only at e1 f1 g1 e2 f2 g2
  subst e1 f1 g1 e2 f2 g2
  exact concat_meets ⟨_, h1, rfl⟩ ⟨_, h2, rfl⟩ noFill_list_add seq_list_add F.slot_list_add F.entry_list_add (F.args_list_add_2 _ _) (list_add_any l b xs ys n1 n2 s1 s2 hc) ⟨h1, h2, h⟩

def rOf1 (K : PySem.W.Frag) (op : PyData → Option PV) : V → Hp → VK → Prop := fun x H Q => ∃ (H0 : Hp) (dx : PyData) (z : PV), Ex H0 H ∧ Dq K H0 H x dx ∧ op dx = some z ∧ Out K H0 H Q z
def rOf2 (K : PySem.W.Frag) (op : PyData → PyData → Option PV) : R2 := fun x y H Q => ∃ (H0 : Hp) (dx dy : PyData) (z : PV), Ex H0 H ∧ Dq K H0 H x dx ∧ Dq K H0 H y dy ∧ op dx dy = some z ∧ Out K H0 H Q z
def rOfB (K : PySem.W.Frag) (op : List PyData → Option PV) : List V → Hp → VK → Prop := fun vs H Q => ∃ (H0 : Hp) (ds : List PyData) (z : PV), Ex H0 H ∧ DqAll K H0 H vs ds ∧ op ds = some z ∧ Out K H0 H Q z
theorem den1_of {K : PySem.W.Frag} {op : PyData → Option PV} : Den1 K (rOf1 K op) op := fun H0 H x dx z Q e hx h o => ⟨H0, dx, z, e, hx, h, o⟩
theorem den2_of {K : PySem.W.Frag} {op : PyData → PyData → Option PV} : Den2 K (rOf2 K op) op := fun H0 H x y dx dy z Q e hx hy h o => ⟨H0, dx, dy, z, e, hx, hy, h, o⟩
theorem denB_of {K : PySem.W.Frag} {op : List PyData → Option PV} : DenB K (rOfB K op) op := fun H0 H vs ds z Q e h1 h o => ⟨H0, ds, z, e, h1, h, o⟩

def opAdd : PyData → PyData → Option PV
  | .int a, .int b => some (.d (.int (a + b)))
  | .str a, .str b => if a.length + b.length ≤ 100000 then some (.d (.str (a ++ b))) else none
  | .list xs, .list ys => if xs.length + ys.length ≤ 100000 then some (.l (xs ++ ys)) else none
  | .tuple xs, .tuple ys => if xs.length + ys.length ≤ 100000 then some (.t (xs ++ ys)) else none
  | _, _ => none
def opSub : PyData → PyData → Option PV
  | .int a, .int b => some (.d (.int (a - b)))
  | _, _ => none
def opMul : PyData → PyData → Option PV
  | .int a, .int b => if (-(2 ^ 64) < a ∧ a < 2 ^ 64) ∨ (-(2 ^ 64) < b ∧ b < 2 ^ 64) then some (.d (.int (a * b))) else none
  | _, _ => none
def opDiv : PyData → PyData → Option PV
  | .int a, .int b => if 0 < b ∧ b.natAbs < 2 ^ 8000 then some (.d (.int (a / b))) else none
  | _, _ => none
def opMod : PyData → PyData → Option PV
  | .int a, .int b => if 0 < b then some (.d (.int (a % b))) else none
  | _, _ => none
def opPow : PyData → PyData → Option PV
  | .int a, .int b => if 0 ≤ b ∧ b ≤ 1000 ∧ a.natAbs < 2 ^ 64 then some (.d (.int (a ^ b.toNat))) else none
  | _, _ => none
def opEq : PyData → PyData → Option PV
  | .str a, .str b => some (.d (.bool (decide (a = b))))
  | x, y => if SeqAt.shaped x = true ∧ SeqAt.shaped y = true then some (.d (.bool (PyData.eqv x y))) else none
def opNe : PyData → PyData → Option PV
  | .str a, .str b => some (.d (.bool (!decide (a = b))))
  | x, y => if SeqAt.shaped x = true ∧ SeqAt.shaped y = true then some (.d (.bool (!PyData.eqv x y))) else none
def opIn (x : PyData) : PyData → Option PV
  | .list ys => if SeqAt.shaped x = true ∧ SeqAt.shaped (.list ys) = true then some (.d (.bool (ys.any fun z => PyData.eqv z x))) else none
  | .tuple ys => if SeqAt.shaped x = true ∧ SeqAt.shaped (.tuple ys) = true then some (.d (.bool (ys.any fun z => PyData.eqv z x))) else none
  | _ => none
def opNi (x : PyData) : PyData → Option PV
  | .list ys => if SeqAt.shaped x = true ∧ SeqAt.shaped (.list ys) = true then some (.d (.bool (!ys.any fun z => PyData.eqv z x))) else none
  | .tuple ys => if SeqAt.shaped x = true ∧ SeqAt.shaped (.tuple ys) = true then some (.d (.bool (!ys.any fun z => PyData.eqv z x))) else none
  | _ => none
def opLt : PyData → PyData → Option PV
  | .int a, .int b => some (.d (.bool (decide (a < b))))
  | .str a, .str b => some (.d (.bool (decide (a.cps.toList < b.cps.toList))))
  | _, _ => none
def opLe : PyData → PyData → Option PV
  | .int a, .int b => some (.d (.bool (decide (a ≤ b))))
  | .str a, .str b => some (.d (.bool (!decide (b.cps.toList < a.cps.toList))))
  | _, _ => none
def opGt : PyData → PyData → Option PV
  | .int a, .int b => some (.d (.bool (decide (b < a))))
  | .str a, .str b => some (.d (.bool (decide (b.cps.toList < a.cps.toList))))
  | _, _ => none
def opGe : PyData → PyData → Option PV
  | .int a, .int b => some (.d (.bool (decide (b ≤ a))))
  | .str a, .str b => some (.d (.bool (!decide (a.cps.toList < b.cps.toList))))
  | _, _ => none
def isNone : PyData → Bool
  | .none => true
  | _ => false
def opIs : PyData → PyData → Option PV
  | .bool a, .bool b => some (.d (.bool (decide (a = b))))
  | x, .none => some (.d (.bool (isNone x)))
  | _, _ => none
def opIsNot : PyData → PyData → Option PV
  | .bool a, .bool b => some (.d (.bool (!decide (a = b))))
  | x, .none => some (.d (.bool (!isNone x)))
  | _, _ => none
def opIx : PyData → PyData → Option PV
  | .list xs, .int i => (atI xs i).map .d
  | .tuple xs, .int i => (atI xs i).map .d
  | .str z, .int i => if z.length ≤ 100000 then (atI z.cps.toList i).map fun c => .d (.str ⟨#[c]⟩) else none
  | _, _ => none
def opNeg : PyData → Option PV
  | .int a => some (.d (.int (-a)))
  | _ => none

section
variable {X : Cx}
theorem dq_int {H0 H : Hp} {v : V} {i : Int} (h : Dq X.K H0 H v (.int i)) : v = .int i := by
  cases (show Dp X.K H0 v (.int i) from h)
  rfl
theorem dq_str {H0 H : Hp} {v : V} {i : Str} (h : Dq X.K H0 H v (.str i)) : v = .str i := by
  cases (show Dp X.K H0 v (.str i) from h)
  rfl
theorem dq_bool {H0 H : Hp} {v : V} {i : Bool} (h : Dq X.K H0 H v (.bool i)) : v = .bl i := by
  cases (show Dp X.K H0 v (.bool i) from h)
  rfl
theorem dq_none {H0 H : Hp} {v : V} (h : Dq X.K H0 H v .none) : v = .non := by
  cases (show Dp X.K H0 v .none from h)
  rfl
theorem dq_tup {H0 H : Hp} {v : V} {xs : List PyData} (e : Ex H0 H) (h : Dq X.K H0 H v (.tuple xs)) : ∃ a vs, v = .ref a ∧ SqT X.K H a vs ∧ SqT X.K H0 a vs ∧ DpAll X.K H0 vs xs := by
  cases (show Dp X.K H0 v (.tuple xs) from h) with
  | tup h1 h2 => exact ⟨_, _, rfl, ex_t e h1, h1, h2⟩
theorem or_add : OpR X (binaryOp .Add) (rOf2 X.K opAdd) := by
  intro pins s σ H x y v u Q I rx ry ⟨H0, dx, dy, z, e0, hx, hy, e, out⟩
  unfold opAdd at e
  split at e
  · obtain rfl := Option.some.inj e
    exact op_add pins s σ H x y v u Q I rx ry ⟨_, _, dq_int hx, dq_int hy, out _ (.int _)⟩
  · split at e
    · rename_i hl
      obtain rfl := Option.some.inj e
      exact op_add_str pins s σ H x y v u Q I rx ry ⟨_, _, dq_str hx, dq_str hy, sz_of hl, out _ (.str _)⟩
    · cases e
  · split at e
    · rename_i xs ys hl
      obtain rfl := Option.some.inj e
      obtain ⟨a, vs, rfl, ha, da⟩ := hx
      obtain ⟨b, ws, rfl, hb, db⟩ := hy
      cases rx
      cases ry
      obtain ⟨its, r1, p1, z1⟩ := I.list ha
      obtain ⟨it2, r2, p2, z2⟩ := I.list hb
      have h1 := dpa_len da
      have h2 := dpa_len db
      have h3 := r1.length
      have h4 := r2.length
      have hz : vs.length + ws.length ≤ sizeLine := sz_of (by omega)
      refine add_lists p1 p2 (by rw [List.size_toArray, List.size_toArray]; omega) ?_
      have ea : its.toArray ++ it2.toArray = (its ++ it2).toArray := by simp
      rw [ea]
      exact ⟨.ref _, _, I.lnew (t' := s.toks) (r1.append r2) (by rw [List.length_append]; omega), rfl, out _ _ I.fresh (dpa_app da db)⟩
    · cases e
  · split at e
    · rename_i xs ys hl
      obtain rfl := Option.some.inj e
      obtain ⟨a, vs, rfl, ha, ha0, da⟩ := dq_tup e0 hx
      obtain ⟨b, ws, rfl, hb, hb0, db⟩ := dq_tup e0 hy
      have h1 := dpa_len da
      have h2 := dpa_len db
      refine op_catA pins s σ H _ _ v u Q I rx ry ⟨a, b, vs, ws, rfl, rfl, ha, hb, sz_of (by omega), fun z => ?_, fun z z2 => ?_, fun _ _ p hp => out.2 p _ hp (dpa_app da db)⟩
      · subst z
        cases da
        exact out.1 _ (.tup hb0 db)
      · subst z2
        cases db
        rw [List.append_nil] at out
        exact out.1 _ (.tup ha0 da)
    · cases e
  · cases e
theorem or_sub : OpR X (binaryOp .Sub) (rOf2 X.K opSub) := by
  intro pins s σ H x y v u Q I rx ry ⟨H0, dx, dy, z, e0, hx, hy, e, out⟩
  unfold opSub at e
  split at e
  · obtain rfl := Option.some.inj e
    exact op_sub pins s σ H x y v u Q I rx ry ⟨_, _, dq_int hx, dq_int hy, out _ (.int _)⟩
  · cases e
theorem or_mul : OpR X (binaryOp .Mult) (rOf2 X.K opMul) := by
  intro pins s σ H x y v u Q I rx ry ⟨H0, dx, dy, z, e0, hx, hy, e, out⟩
  unfold opMul at e
  split at e
  · split at e
    · rename_i hl
      obtain rfl := Option.some.inj e
      exact op_mul pins s σ H x y v u Q I rx ry ⟨_, _, dq_int hx, dq_int hy, hl, out _ (.int _)⟩
    · cases e
  · cases e
theorem or_div : OpR X (binaryOp .FloorDiv) (rOf2 X.K opDiv) := by
  intro pins s σ H x y v u Q I rx ry ⟨H0, dx, dy, z, e0, hx, hy, e, out⟩
  unfold opDiv at e
  split at e
  · split at e
    · rename_i a b hl
      obtain rfl := Option.some.inj e
      exact op_fdivW pins s σ H x y v u Q I rx ry ⟨_, _, dq_int hx, dq_int hy, wide_div (b := 8000) hl.1 hl.2 (by decide) (by decide), out _ (.int _)⟩
    · cases e
  · cases e
theorem or_mod : OpR X (binaryOp .Mod) (rOf2 X.K opMod) := by
  intro pins s σ H x y v u Q I rx ry ⟨H0, dx, dy, z, e0, hx, hy, e, out⟩
  unfold opMod at e
  split at e
  · split at e
    · rename_i a b hl
      obtain rfl := Option.some.inj e
      exact op_mod pins s σ H x y v u Q I rx ry ⟨_, _, dq_int hx, dq_int hy, hl, out _ (.int _)⟩
    · cases e
  · cases e
theorem or_pow : OpR X (binaryOp .Pow) (rOf2 X.K opPow) := by
  intro pins s σ H x y v u Q I rx ry ⟨H0, dx, dy, z, e0, hx, hy, e, out⟩
  unfold opPow at e
  split at e
  · split at e
    · rename_i a b hl
      obtain rfl := Option.some.inj e
      exact op_pow pins s σ H x y v u Q I rx ry ⟨_, _, dq_int hx, dq_int hy, ⟨hl.1, by omega, hl.2.2⟩, out _ (.int _)⟩
    · cases e
  · cases e
theorem dec_str (a b : Str) : decide (V.str a = V.str b) = decide (a = b) := by
  by_cases h : a = b
  · rw [h]
    simp
  · rw [decide_eq_false h, decide_eq_false fun q => h (V.str.inj q)]
theorem or_eq (hu : X.A.units + 65 < cLine) : OpR X (compareOp .Eq) (rOf2 X.K opEq) := by
  intro pins s σ H x y v u Q I rx ry ⟨H0, dx, dy, z, e0, hx, hy, e, out⟩
  unfold opEq at e
  split at e
  · obtain rfl := Option.some.inj e
    have h1 := dq_str hx
    have h2 := dq_str hy
    subst h1 h2
    refine op_eq pins s σ H _ _ v u Q I rx ry ⟨rfl, ?_⟩
    rw [dec_str]
    exact out _ (.bl _)
  · split at e
    · rename_i hl
      obtain rfl := Option.some.inj e
      exact op_eqD (by omega) pins s σ H x y v u Q I rx ry ⟨_, _, hx.dp e0, hy.dp e0, hl.1, hl.2, out _ (.bl _)⟩
    · cases e
theorem or_ne (hu : X.A.units + 65 < cLine) : OpR X (compareOp .NotEq) (rOf2 X.K opNe) := by
  intro pins s σ H x y v u Q I rx ry ⟨H0, dx, dy, z, e0, hx, hy, e, out⟩
  unfold opNe at e
  split at e
  · obtain rfl := Option.some.inj e
    have h1 := dq_str hx
    have h2 := dq_str hy
    subst h1 h2
    refine op_ne pins s σ H _ _ v u Q I rx ry ⟨rfl, ?_⟩
    rw [dec_str]
    exact out _ (.bl _)
  · split at e
    · rename_i hl
      obtain rfl := Option.some.inj e
      exact op_neD (by omega) pins s σ H x y v u Q I rx ry ⟨_, _, hx.dp e0, hy.dp e0, hl.1, hl.2, out _ (.bl _)⟩
    · cases e
theorem or_in (hu : X.A.units + 65 < cLine) : OpR X (compareOp .In) (rOf2 X.K opIn) := by
  intro pins s σ H x y v u Q I rx ry ⟨H0, dx, dy, z, e0, hx, hy, e, out⟩
  unfold opIn at e
  split at e
  · split at e
    · rename_i hl
      obtain rfl := Option.some.inj e
      exact op_inD (by omega) pins s σ H x y v u Q I rx ry ⟨_, _, hx.dp e0, hy.dp e0, hl.1, hl.2, out _ (.bl _)⟩
    · cases e
  · split at e
    · rename_i hl
      obtain rfl := Option.some.inj e
      obtain ⟨as, r1⟩ := Dp.reads I _ x v (hx.dp e0) rx
      obtain ⟨bs, r2⟩ := Dp.reads I _ y u (hy.dp e0) ry
      exact SeqAt.in_tuple_reads r2 r1 (SeqAt.canLay_of_shaped hl.2) (SeqAt.canLay_of_shaped hl.1) (room_in_shaped hl.1 hu) ⟨.bl _, H, I, rfl, out _ (.bl _)⟩
    · cases e
  · cases e
theorem or_ni (hu : X.A.units + 65 < cLine) : OpR X (compareOp .NotIn) (rOf2 X.K opNi) := by
  intro pins s σ H x y v u Q I rx ry ⟨H0, dx, dy, z, e0, hx, hy, e, out⟩
  unfold opNi at e
  split at e
  · split at e
    · rename_i hl
      obtain rfl := Option.some.inj e
      exact op_notInD (by omega) pins s σ H x y v u Q I rx ry ⟨_, _, hx.dp e0, hy.dp e0, hl.1, hl.2, out _ (.bl _)⟩
    · cases e
  · split at e
    · rename_i hl
      obtain rfl := Option.some.inj e
      obtain ⟨as, r1⟩ := Dp.reads I _ x v (hx.dp e0) rx
      obtain ⟨bs, r2⟩ := Dp.reads I _ y u (hy.dp e0) ry
      exact SeqAt.notIn_tuple_reads r2 r1 (SeqAt.canLay_of_shaped hl.2) (SeqAt.canLay_of_shaped hl.1) (room_in_shaped hl.1 hu) ⟨.bl _, H, I, rfl, out _ (.bl _)⟩
    · cases e
  · cases e
theorem or_lt : OpR X (compareOp .Lt) (rOf2 X.K opLt) := by
  intro pins s σ H x y v u Q I rx ry ⟨H0, dx, dy, z, e0, hx, hy, e, out⟩
  unfold opLt at e
  split at e
  · obtain rfl := Option.some.inj e
    exact op_lt pins s σ H x y v u Q I rx ry ⟨_, _, dq_int hx, dq_int hy, out _ (.bl _)⟩
  · obtain rfl := Option.some.inj e
    exact op_lt_str pins s σ H x y v u Q I rx ry ⟨_, _, dq_str hx, dq_str hy, out _ (.bl _)⟩
  · cases e
theorem or_le : OpR X (compareOp .LtE) (rOf2 X.K opLe) := by
  intro pins s σ H x y v u Q I rx ry ⟨H0, dx, dy, z, e0, hx, hy, e, out⟩
  unfold opLe at e
  split at e
  · obtain rfl := Option.some.inj e
    exact op_le pins s σ H x y v u Q I rx ry ⟨_, _, dq_int hx, dq_int hy, out _ (.bl _)⟩
  · obtain rfl := Option.some.inj e
    exact op_le_str pins s σ H x y v u Q I rx ry ⟨_, _, dq_str hx, dq_str hy, out _ (.bl _)⟩
  · cases e
theorem or_gt : OpR X (compareOp .Gt) (rOf2 X.K opGt) := by
  intro pins s σ H x y v u Q I rx ry ⟨H0, dx, dy, z, e0, hx, hy, e, out⟩
  unfold opGt at e
  split at e
  · obtain rfl := Option.some.inj e
    exact op_gt pins s σ H x y v u Q I rx ry ⟨_, _, dq_int hx, dq_int hy, out _ (.bl _)⟩
  · obtain rfl := Option.some.inj e
    exact op_gt_str pins s σ H x y v u Q I rx ry ⟨_, _, dq_str hx, dq_str hy, out _ (.bl _)⟩
  · cases e
theorem or_ge : OpR X (compareOp .GtE) (rOf2 X.K opGe) := by
  intro pins s σ H x y v u Q I rx ry ⟨H0, dx, dy, z, e0, hx, hy, e, out⟩
  unfold opGe at e
  split at e
  · obtain rfl := Option.some.inj e
    exact op_ge pins s σ H x y v u Q I rx ry ⟨_, _, dq_int hx, dq_int hy, out _ (.bl _)⟩
  · obtain rfl := Option.some.inj e
    exact op_ge_str pins s σ H x y v u Q I rx ry ⟨_, _, dq_str hx, dq_str hy, out _ (.bl _)⟩
  · cases e
theorem non_of {H0 H : Hp} {x : V} {d : PyData} (h : Dq X.K H0 H x d) : decide (x = .non) = isNone d := by
  cases d with
  | none => rw [dq_none h]; rfl
  | bool b => rw [dq_bool h]; rfl
  | int i => rw [dq_int h]; rfl
  | str z => rw [dq_str h]; rfl
  | list ds =>
    obtain ⟨a, vs, rfl, _⟩ := h
    rfl
  | tuple ds =>
    cases (show Dp X.K H0 x (.tuple ds) from h)
    rfl
  | dict _ => cases (show Dp X.K H0 x _ from h)
theorem or_is : OpR X (compareOp .Is) (rOf2 X.K opIs) := by
  intro pins s σ H x y v u Q I rx ry ⟨H0, dx, dy, z, e0, hx, hy, e, out⟩
  unfold opIs at e
  split at e
  · obtain rfl := Option.some.inj e
    exact op_isBl pins s σ H x y v u Q I rx ry ⟨_, _, dq_bool hx, dq_bool hy, out _ (.bl _)⟩
  · obtain rfl := Option.some.inj e
    refine op_isN pins s σ H x y v u Q I rx ry ⟨dq_none hy, ?_⟩
    rw [non_of hx]
    exact out _ (.bl _)
  · cases e
theorem or_isNot : OpR X (compareOp .IsNot) (rOf2 X.K opIsNot) := by
  intro pins s σ H x y v u Q I rx ry ⟨H0, dx, dy, z, e0, hx, hy, e, out⟩
  unfold opIsNot at e
  split at e
  · obtain rfl := Option.some.inj e
    exact op_notBl pins s σ H x y v u Q I rx ry ⟨_, _, dq_bool hx, dq_bool hy, out _ (.bl _)⟩
  · obtain rfl := Option.some.inj e
    refine op_notN pins s σ H x y v u Q I rx ry ⟨dq_none hy, ?_⟩
    rw [non_of hx]
    exact out _ (.bl _)
  · cases e
theorem at_map {α : Type} {xs : List α} {i : Int} {x : α} (h : atI xs i = some x) : ∃ j, ixN xs.length i = some j ∧ xs[j]? = some x := Option.bind_eq_some_iff.mp h
theorem at_dpa {H0 : Hp} {vs : List V} {xs : List PyData} {i : Int} {x : PyData} (d : DpAll X.K H0 vs xs) (h : atI xs i = some x) : ∃ v, atI vs i = some v ∧ Dp X.K H0 v x := by
  obtain ⟨j, h1, h2⟩ := at_map h
  obtain ⟨v, hv, dv⟩ := dpa_get d h2
  refine ⟨v, ?_, dv⟩
  unfold atI
  rw [dpa_len d, h1]
  exact hv
theorem ix_of : IxR X (rOf2 X.K opIx) := by
  intro va sc pins s σ H x y v u Q I rx ry ⟨H0, dx, dy, z, e0, hx, hy, e, out⟩ hs
  unfold opIx at e
  split at e
  · obtain ⟨d, e1, rfl⟩ := map_some e
    obtain ⟨a, vs, rfl, ha, da⟩ := hx
    obtain ⟨w, hw, dw⟩ := at_dpa da e1
    exact ix_list va sc pins s σ H _ y v u Q I rx ry ⟨a, vs, _, w, rfl, dq_int hy, ha, hw, out w dw⟩ hs
  · obtain ⟨d, e1, rfl⟩ := map_some e
    obtain ⟨a, vs, rfl, ha, _, da⟩ := dq_tup e0 hx
    obtain ⟨w, hw, dw⟩ := at_dpa da e1
    exact ix_tup va sc pins s σ H _ y v u Q I rx ry ⟨a, vs, _, w, rfl, dq_int hy, ha, hw, out w dw⟩ hs
  · split at e
    · rename_i hl
      obtain ⟨c, e1, rfl⟩ := map_some e
      exact ix_str va sc pins s σ H _ y v u Q I rx ry ⟨_, _, c, dq_str hx, dq_int hy, sz_of hl, e1, out _ (.str _)⟩ hs
    · cases e
  · cases e
theorem un_of : UnR X (unaryOp .USub) (rOf1 X.K opNeg) := by
  intro pins s σ H x v Q I rx ⟨H0, dx, z, e0, hx, e, out⟩
  unfold opNeg at e
  split at e
  · obtain rfl := Option.some.inj e
    exact un_neg pins s σ H x v Q I rx ⟨_, dq_int hx, out _ (.int _)⟩
  · cases e
def cutD (xs : List PyData) (lo hi : Option Int) : List PyData := (xs.drop (HT.sIx xs.length 0 lo)).take (HT.sIx xs.length xs.length hi - HT.sIx xs.length 0 lo)
def opSl (x : PyData) (lo hi : Option Int) : Option PV := match x with
  | .list xs => some (.l (cutD xs lo hi))
  | .tuple xs => some (.t (cutD xs lo hi))
  | .str z => if z.length ≤ 100000 then some (.d (.str (cutS z lo hi))) else none
  | _ => none
def rOfS (K : PySem.W.Frag) (op : PyData → Option Int → Option Int → Option PV) : V → Option Int → Option Int → Hp → VK → Prop := fun x lo hi H Q => ∃ (H0 : Hp) (dx : PyData) (z : PV), Ex H0 H ∧ Dq K H0 H x dx ∧ op dx lo hi = some z ∧ Out K H0 H Q z
theorem cut_dpa {H0 : Hp} {vs : List V} {xs : List PyData} {lo hi : Option Int} (d : DpAll X.K H0 vs xs) : DpAll X.K H0 (cutV vs lo hi) (cutD xs lo hi) := by
  unfold cutV cutD
  rw [dpa_len d]
  exact dpa_take _ (dpa_drop _ d)
theorem sl_of : SlR X (rOfS X.K opSl) := by
  intro pins s σ H x v vl vu lo hi sl Q I rx hs pl pu ⟨H0, dx, z, e0, hx, e, out⟩
  unfold opSl at e
  split at e
  · obtain rfl := Option.some.inj e
    obtain ⟨a, vs, rfl, ha, da⟩ := hx
    exact sl_list pins s σ H _ v vl vu lo hi sl Q I rx hs pl pu ⟨a, vs, rfl, ha, fun p hp => out p _ hp (cut_dpa da)⟩
  · obtain rfl := Option.some.inj e
    obtain ⟨a, vs, rfl, ha, ha0, da⟩ := dq_tup e0 hx
    refine sl_tupA pins s σ H _ v vl vu lo hi sl Q I rx hs pl pu ⟨a, vs, rfl, ha, fun w => out.1 _ ?_, fun _ p hp => out.2 p _ hp (cut_dpa da)⟩
    rename_i xs
    have e1 : cutD xs lo hi = xs := by
      unfold cutD
      rw [dpa_len da] at w
      rw [w.1, w.2]
      simp
    rw [e1]
    exact .tup ha0 da
  · split at e
    · rename_i hl
      obtain rfl := Option.some.inj e
      exact sl_str pins s σ H _ v vl vu lo hi sl Q I rx hs pl pu ⟨_, dq_str hx, sz_of hl, out _ (.str _)⟩
    · cases e
  · cases e
end
end XN

set_option maxRecDepth 100000
set_option maxHeartbeats 4000000
/-! calls of built-ins on data -/
namespace XN
open PySem PySem.Spec PyProof.Rows L2 Evl

def opLen : List PyData → Option PV
  | [.list xs] => some (.d (.int xs.length))
  | [.tuple xs] => some (.d (.int xs.length))
  | [.str z] => if z.length ≤ 100000 then some (.d (.int z.length)) else none
  | _ => none
def opInt : List PyData → Option PV
  | [.int i] => some (.d (.int i))
  | [.bool b] => some (.d (.int (if b then 1 else 0)))
  | _ => none
def opAbs : List PyData → Option PV
  | [.int i] => some (.d (.int (if i < 0 then -i else i)))
  | _ => none
def opMax : List PyData → Option PV
  | [.int i, .int j] => some (.d (.int (if j > i then j else i)))
  | _ => none
def opMin : List PyData → Option PV
  | [.int i, .int j] => some (.d (.int (if j < i then j else i)))
  | _ => none
def opList : List PyData → Option PV
  | [.list xs] => some (.l xs)
  | [.tuple xs] => some (.l xs)
  | _ => none
def opTup : List PyData → Option PV
  | [.list xs] => some (.t xs)
  | [.tuple xs] => some (.d (.tuple xs))
  | _ => none
open Classical in
noncomputable def opSort : List PyData → Option PV
  | [.list xs] => if XC.Srtbl xs then some (.l (XC.srt xs)) else none
  | _ => none
def opRepr : List PyData → Option PV
  | [x] => if x.showable = true ∧ x.depth ≤ 30 ∧ x.shown.length ≤ 100000 then some (.d (.str x.shown)) else none
  | _ => none
def boolsOf : List PyData → Option (List Bool)
  | [] => some []
  | .bool b :: xs => (boolsOf xs).map fun bs => b :: bs
  | _ => none
def opAny : List PyData → Option PV
  | [.list xs] => (boolsOf xs).map fun bs => .d (.bool (bs.any id))
  | _ => none
def opAll : List PyData → Option PV
  | [.list xs] => (boolsOf xs).map fun bs => .d (.bool (bs.all id))
  | _ => none
def tyOf : PyData → String
  | .none => "NoneType"
  | .bool _ => "bool"
  | .int _ => "int"
  | .str _ => "str"
  | .list _ => "list"
  | .tuple _ => "tuple"
  | .dict _ => "dict"
def opIsi (T : String) (x : PyData) : Option PV := (kitB (tyOf x) T).map fun b => .d (.bool b)
section
variable {X : Cx}
theorem bools_of {H0 : Hp} : ∀ {vs : List V} {xs : List PyData} {bs : List Bool}, DpAll X.K H0 vs xs → boolsOf xs = some bs → vs = bs.map V.bl
  | _, _, _, .nil, e => by
    obtain rfl := Option.some.inj e
    rfl
  | _, _, _, .cons (d := d) h t, e => by
    cases d with
    | bool b =>
      obtain ⟨cs, e1, rfl⟩ := map_some (show (boolsOf _).map _ = _ from e)
      cases h
      rw [bools_of t e1]
      rfl
    | _ => cases e
theorem cr_len : CallR X (.builtin "len") (rOfB X.K opLen) := by
  intro pins s σ H xs us Q I r ⟨H0, ds, z, e0, hd, e, out⟩
  unfold opLen at e
  split at e
  · obtain rfl := Option.some.inj e
    cases hd with
    | cons h t =>
      cases t
      obtain ⟨a, vs, rfl, ha, da⟩ := h
      refine call_len_seq pins s σ H _ us Q I r ⟨a, vs, rfl, .inl ha, ?_⟩
      rw [dpa_len da]
      exact out _ (.int _)
  · obtain rfl := Option.some.inj e
    cases hd with
    | cons h t =>
      cases t
      obtain ⟨a, vs, rfl, ha, _, da⟩ := dq_tup e0 h
      refine call_len_seq pins s σ H _ us Q I r ⟨a, vs, rfl, .inr ha, ?_⟩
      rw [dpa_len da]
      exact out _ (.int _)
  · split at e
    · rename_i hl
      obtain rfl := Option.some.inj e
      cases hd with
      | cons h t =>
        cases t
        obtain rfl := dq_str h
        exact call_len_str pins s σ H _ us Q I r ⟨_, rfl, sz_of hl, out _ (.int _)⟩
    · cases e
  · cases e
theorem cr_int : CallR X (.type "int") (rOfB X.K opInt) := by
  intro pins s σ H xs us Q I r ⟨H0, ds, z, e0, hd, e, out⟩
  unfold opInt at e
  split at e
  · obtain rfl := Option.some.inj e
    cases hd with
    | cons h t =>
      cases t
      obtain rfl := dq_int h
      exact call_int1 pins s σ H _ us Q I r (.inl ⟨_, rfl, out _ (.int _)⟩)
  · obtain rfl := Option.some.inj e
    cases hd with
    | cons h t =>
      cases t
      obtain rfl := dq_bool h
      exact call_int1 pins s σ H _ us Q I r (.inr ⟨_, rfl, out _ (.int _)⟩)
  · cases e
theorem cr_abs : CallR X (.builtin "abs") (rOfB X.K opAbs) := by
  intro pins s σ H xs us Q I r ⟨H0, ds, z, e0, hd, e, out⟩
  unfold opAbs at e
  split at e
  · obtain rfl := Option.some.inj e
    cases hd with
    | cons h t =>
      cases t
      obtain rfl := dq_int h
      exact call_abs pins s σ H _ us Q I r ⟨_, rfl, out _ (.int _)⟩
  · cases e
theorem cr_max (hc : X.calm = true) : CallR X (.builtin "max") (rOfB X.K opMax) := by
  intro pins s σ H xs us Q I r ⟨H0, ds, z, e0, hd, e, out⟩
  unfold opMax at e
  split at e
  · obtain rfl := Option.some.inj e
    cases hd with
    | cons h t =>
      cases t with
      | cons h2 t =>
        cases t
        obtain rfl := dq_int h
        obtain rfl := dq_int h2
        exact call_max2 hc pins s σ H _ us Q I r ⟨_, _, rfl, out _ (.int _)⟩
  · cases e
theorem cr_min (hc : X.calm = true) : CallR X (.builtin "min") (rOfB X.K opMin) := by
  intro pins s σ H xs us Q I r ⟨H0, ds, z, e0, hd, e, out⟩
  unfold opMin at e
  split at e
  · obtain rfl := Option.some.inj e
    cases hd with
    | cons h t =>
      cases t with
      | cons h2 t =>
        cases t
        obtain rfl := dq_int h
        obtain rfl := dq_int h2
        exact call_min2 hc pins s σ H _ us Q I r ⟨_, _, rfl, out _ (.int _)⟩
  · cases e
theorem cr_list : CallR X (.type "list") (rOfB X.K opList) := by
  intro pins s σ H xs us Q I r ⟨H0, ds, z, e0, hd, e, out⟩
  unfold opList at e
  split at e
  · obtain rfl := Option.some.inj e
    cases hd with
    | cons h t =>
      cases t
      obtain ⟨a, vs, rfl, ha, da⟩ := h
      exact call_list_of pins s σ H _ us Q I r ⟨a, vs, rfl, .inl ha, fun l hl => out l _ hl da⟩
  · obtain rfl := Option.some.inj e
    cases hd with
    | cons h t =>
      cases t
      obtain ⟨a, vs, rfl, ha, _, da⟩ := dq_tup e0 h
      exact call_list_of pins s σ H _ us Q I r ⟨a, vs, rfl, .inr ha, fun l hl => out l _ hl da⟩
  · cases e
theorem cr_tup : CallR X (.type "tuple") (rOfB X.K opTup) := by
  intro pins s σ H xs us Q I r ⟨H0, ds, z, e0, hd, e, out⟩
  unfold opTup at e
  split at e
  · obtain rfl := Option.some.inj e
    cases hd with
    | cons h t =>
      cases t
      obtain ⟨a, vs, rfl, ha, da⟩ := h
      exact call_tuple_of pins s σ H _ us Q I r ⟨a, vs, rfl, .inl ⟨ha, fun l hl => out.2 l _ hl da⟩⟩
  · obtain rfl := Option.some.inj e
    cases hd with
    | cons h t =>
      cases t
      obtain ⟨a, vs, rfl, ha, h0, da⟩ := dq_tup e0 h
      exact call_tuple_of pins s σ H _ us Q I r ⟨a, vs, rfl, .inr ⟨ha, out _ (.tup h0 da)⟩⟩
  · cases e
theorem cr_sort (hu : X.A.units + 100 < cLine) : CallR X (.builtin "sorted") (rOfB X.K opSort) := by
  intro pins s σ H xs us Q I r ⟨H0, ds, z, e0, hd, e, out⟩
  unfold opSort at e
  split at e
  · split at e
    · rename_i hS
      obtain rfl := Option.some.inj e
      cases hd with
      | cons h t =>
        cases t
        obtain ⟨a, vs, rfl, ha, da⟩ := h
        refine XC.cr_sortedD hu pins s σ H _ us Q I r ⟨a, vs, _, rfl, ha, dpa_ex e0 _ _ da, hS, fun ps p pm es hp => out p _ hp ?_⟩
        rw [← es]
        exact XC.dp_of_pairs fun q hq => XC.dp_zip da q (pm.mem_iff.mp hq)
    · cases e
  · cases e
theorem cr_repr (hg : X.A.guards = some []) (hu : X.A.units + 64 < cLine) : CallR X (.builtin "repr") (rOfB X.K opRepr) := by
  intro pins s σ H xs us Q I r ⟨H0, ds, z, e0, hd, e, out⟩
  unfold opRepr at e
  split at e
  · split at e
    · rename_i hl
      obtain rfl := Option.some.inj e
      cases hd with
      | cons h t =>
        cases t
        exact XG.repr_data hg hu pins s σ H _ us Q I r ⟨_, _, rfl, h.dp e0, hl.1, hl.2.1, sz_of hl.2.2, out _ (.str _)⟩
    · cases e
  · cases e
theorem cr_any (hc : X.calm = true) : CallR X (.builtin "any") (rOfB X.K opAny) := by
  intro pins s σ H xs us Q I r ⟨H0, ds, z, e0, hd, e, out⟩
  unfold opAny at e
  split at e
  · obtain ⟨bs, e1, rfl⟩ := map_some e
    cases hd with
    | cons h t =>
      cases t
      obtain ⟨a, vs, rfl, ha, da⟩ := h
      rw [bools_of da e1] at ha
      exact L2.cr_any hc pins s σ H _ us Q I r ⟨a, bs, rfl, ha, out _ (.bl _)⟩
  · cases e
theorem cr_all (hc : X.calm = true) : CallR X (.builtin "all") (rOfB X.K opAll) := by
  intro pins s σ H xs us Q I r ⟨H0, ds, z, e0, hd, e, out⟩
  unfold opAll at e
  split at e
  · obtain ⟨bs, e1, rfl⟩ := map_some e
    cases hd with
    | cons h t =>
      cases t
      obtain ⟨a, vs, rfl, ha, da⟩ := h
      rw [bools_of da e1] at ha
      exact L2.cr_all hc pins s σ H _ us Q I r ⟨a, bs, rfl, ha, out _ (.bl _)⟩
  · cases e
theorem ty_of {H0 H : Hp} {v : V} {d : PyData} (e0 : Ex H0 H) (h : Dq X.K H0 H v d) : TyX X.K H v (.type (tyOf d)) := by
  cases d with
  | none => rw [dq_none h]; exact .base .non
  | bool b => rw [dq_bool h]; exact .base (.bl _)
  | int i => rw [dq_int h]; exact .base (.int _)
  | str z => rw [dq_str h]; exact .base (.str _)
  | list ds =>
    obtain ⟨a, vs, rfl, ha, _⟩ := h
    rcases ha with (ha | ⟨o, ha⟩) | ⟨o, its, n, hk, hc, _⟩
    · exact .base (.lst ha)
    · exact .base (.frz ha)
    · exact .kList hk hc
  | tuple ds =>
    obtain ⟨a, vs, rfl, ha, _⟩ := dq_tup e0 h
    rcases ha with (ha | ⟨o, ha⟩) | ⟨o, its, n, hk, hc, _⟩
    · exact .base (.tup ha)
    · exact .fTuple ha
    · exact .kTuple hk hc
  | dict _ => cases (show Dp X.K H0 v _ from h)
theorem den1_isi {K : PySem.W.Frag} (T : String) {te : TE} {f : DF} (h : DenE K te f) (hK : ∀ {H0 H : Hp} {v : V} {d : PyData}, Ex H0 H → Dq K H0 H v d → TyX K H v (.type (tyOf d))) : DenE K (tCB (rIsi K) (tCons te (tCons (tC (.ty T)) tNil))) (dUn (opIsi T) f) := by
  intro B Fr H0 s σ H r s' R e Q k
  obtain ⟨⟨r1, s1⟩, e1, e⟩ := bind_some e
  obtain ⟨x, e3, e⟩ := bind_some e
  obtain ⟨z, e5, e6⟩ := map_some e
  obtain ⟨rfl, rfl⟩ := Prod.mk.inj e6
  obtain ⟨b, e7, rfl⟩ := map_some e5
  refine h B Fr H0 s σ H r1 s1 R e1 _ fun v1 H1 H01 x1 R1 q1 => ?_
  obtain ⟨H02, x2, R2, q2⟩ := q1.hold R1
  exact ⟨v1, .ty T, _, _, b, rfl, .ty T, hK R2.e0 (q2.dq R2 e3), kit_ty e7, k _ H1 H02 (x1.trans x2) R2 (.bl b)⟩
end
end XN

set_option maxRecDepth 100000
set_option maxHeartbeats 4000000
/-! the rules by syntax -/
namespace XN
open PySem PySem.Spec PyProof.Rows L2 Evl

section
variable {X : Cx} {a b c e : Expr} {es : List Expr} {ta tb tc te : PySem.W.Frag → TE} {tt tu : PySem.W.Frag → TT} {tas : PySem.W.Frag → TA} {f g h : DF} {t u : DT} {fa : DA} {pos : Pos}
theorem de_v (i : Nat) {x : Str} {pos : Pos} (hN : X.N[i]? = some x := by rfl) (hv : Vis X.env.scope x := by first | exact Or.inl rfl | exact Or.inr (Or.inl rfl) | exact Or.inr (Or.inr rfl)) (hd : (x == ("__debug__" : Str)) = false := by decide)
    (hcd : (x == ("__classdict__" : Str)) = false := by decide) : DE X (.Name x pos) (fun _ => tVar i) (dV i) := ⟨pv i hN hv hd hcd, den_v i⟩
theorem de_int {i : Int} {j} : DE X (.Constant (.int i) j pos) (fun _ => tC (.int i)) (dC (.int i)) := ⟨pe_int, den_c fun _ => .int i⟩
theorem de_bl {i : Bool} {j} : DE X (.Constant (.bool i) j pos) (fun _ => tC (.bl i)) (dC (.bool i)) := ⟨pe_bl, den_c fun _ => .bl i⟩
theorem de_non {j} : DE X (.Constant .none j pos) (fun _ => tC .non) (dC .none) := ⟨pe_non, den_c fun _ => .non⟩
theorem de_str {i : Str} {j} : DE X (.Constant (.str i) j pos) (fun _ => tC (.str i)) (dC (.str i)) := ⟨pe_str, den_c fun _ => .str i⟩
theorem de_bin {op : Operator} {od : PyData → PyData → Option PV} (ho : OpR X (binaryOp op) (rOf2 X.K od)) (ha : DE X a ta f) (hb : DE X b tb g) : DE X (.BinOp a op b pos) (fun K => tOp (rOf2 K od) (ta K) (tb K)) (dOp od f g) := ⟨pe_op ho ha.pe hb.pe, den_op den2_of ha.den hb.den⟩
theorem de_cmp {op : CmpOp} {od : PyData → PyData → Option PV} (ho : OpR X (compareOp op) (rOf2 X.K od)) (ha : DE X a ta f) (hb : DE X b tb g) (hm : behindInMarks op b = false := by first | exact nomark _ | with_unfolding_all rfl) :
    DE X (.Compare a [op] [b] pos) (fun K => tOp (rOf2 K od) (ta K) (tb K)) (dOp od f g) := ⟨pe_cmpR ho ha.pe hb.pe hm, den_op den2_of ha.den hb.den⟩
theorem dt_cmp {op : CmpOp} {od : PyData → PyData → Option PV} (ho : OpR X (compareOp op) (rOf2 X.K od)) (ha : DE X a ta f) (hb : DE X b tb g) (hm : behindInMarks op b = false := by first | exact nomark _ | with_unfolding_all rfl) :
    DTe X (.Compare a [op] [b] pos) (fun K => tTest (tOp (rOf2 K od) (ta K) (tb K))) (dTest (dOp od f g)) := ⟨pt_cmpR ho ha.pe hb.pe hm, den_test (den_op den2_of ha.den hb.den)⟩
theorem de_neg (ha : DE X a ta f) : DE X (.UnaryOp .USub a pos) (fun K => tUn (rOf1 K opNeg) (ta K)) (dUn opNeg f) := ⟨pe_un un_of ha.pe, den_un den1_of ha.den⟩
theorem de_ix (ha : DE X a ta f) (hb : DE X b tb g) (hs : PlainIx b := by exact fun _ _ => rfl) : DE X (.Subscript a b pos) (fun K => tOp (rOf2 K opIx) (ta K) (tb K)) (dOp opIx f g) := ⟨pe_ix ix_of ha.pe hb.pe hs, den_op den2_of ha.den hb.den⟩
theorem dt_val (h : DE X e te f) (he : ∀ whole, isTrue e X.env whole = (do let v ← whole; standAt e.pos; holding [v] (truthy v)) := by intro _; rfl) : DTe X e (fun K => tB (te K)) (dTest f) := ⟨pt_val h.pe he, den_B h.den⟩
theorem dt_not (h : DTe X e tt t) : DTe X (.UnaryOp .Not e pos) (fun K => tNot (tt K)) (dNot t) := ⟨pt_not h.pt, den_not h.den⟩
/-- and, or as tests, from the right -/
structure DW (X : Cx) (e : Expr) (tt : PySem.W.Frag → TT) (f : DT) : Prop where
  pw : PW X e (tt X.K)
  den : DenT X.K (tt X.K) f
theorem dw_and1 (h : DTe X e tt t) : DW X (.BoolOp .And [e] pos) tt t := ⟨pw_and1 h.pt, h.den⟩
theorem dw_or1 (h : DTe X e tt t) : DW X (.BoolOp .Or [e] pos) tt t := ⟨pw_or1 h.pt, h.den⟩
theorem dw_and {rest : List Expr} (h : DTe X a tt t) (hr : DW X (.BoolOp .And (b :: rest) pos) tu u) : DW X (.BoolOp .And (a :: b :: rest) pos) (fun K => tAnd (tt K) (tu K)) (dAnd t u) := ⟨pw_and h.pt hr.pw, den_and h.den hr.den⟩
theorem dw_or {rest : List Expr} (h : DTe X a tt t) (hr : DW X (.BoolOp .Or (b :: rest) pos) tu u) : DW X (.BoolOp .Or (a :: b :: rest) pos) (fun K => tOr (tt K) (tu K)) (dOr t u) := ⟨pw_or h.pt hr.pw, den_or h.den hr.den⟩
theorem dt_w (h : DW X e tt t) : DTe X e tt t := ⟨h.pw.pt, h.den⟩
/-- and, or, not as values -/
def dAndV (f g : DF) : DF := fun s => (dTest f s).bind fun p => if p.1 = true then g p.2 else some (.d (.bool false), p.2)
def dOrV (f g : DF) : DF := fun s => (dTest f s).bind fun p => if p.1 = true then some (.d (.bool true), p.2) else g p.2
def dNotV (f : DF) : DF := fun s => (dTest f s).map fun p => (.d (.bool (!p.1)), p.2)
theorem den_andV {K : PySem.W.Frag} {ta tb : TE} (h1 : DenE K ta f) (h2 : DenE K tb g) : DenE K (tAndV ta tb) (dAndV f g) := by
  intro B Fr H0 s σ H r s' R e Q k
  obtain ⟨⟨b1, s1⟩, e1, e⟩ := bind_some e
  refine h1 B Fr H0 s σ H _ s1 R (test_eq e1) _ fun v H1 H01 x1 R1 q1 => ?_
  cases q1
  refine ⟨b1, rfl, ?_⟩
  cases b1 with
  | true => exact ite_tt (h2 B Fr H01 s1 σ H1 r s' R1 e Q fun v H2 H02 x2 R2 => k v H2 H02 (x1.trans x2) R2)
  | false =>
    obtain ⟨rfl, rfl⟩ := Prod.mk.inj (Option.some.inj e)
    exact ite_ff (k _ H1 H01 x1 R1 (Dp.bl false))
theorem den_orV {K : PySem.W.Frag} {ta tb : TE} (h1 : DenE K ta f) (h2 : DenE K tb g) : DenE K (tOrV ta tb) (dOrV f g) := by
  intro B Fr H0 s σ H r s' R e Q k
  obtain ⟨⟨b1, s1⟩, e1, e⟩ := bind_some e
  refine h1 B Fr H0 s σ H _ s1 R (test_eq e1) _ fun v H1 H01 x1 R1 q1 => ?_
  cases q1
  refine ⟨b1, rfl, ?_⟩
  cases b1 with
  | false => exact ite_ff (h2 B Fr H01 s1 σ H1 r s' R1 e Q fun v H2 H02 x2 R2 => k v H2 H02 (x1.trans x2) R2)
  | true =>
    obtain ⟨rfl, rfl⟩ := Prod.mk.inj (Option.some.inj e)
    exact ite_tt (k _ H1 H01 x1 R1 (Dp.bl true))
theorem den_notV {K : PySem.W.Frag} {ta : TE} (h1 : DenE K ta f) : DenE K (tNotV ta) (dNotV f) := by
  intro B Fr H0 s σ H r s' R e Q k
  obtain ⟨⟨b1, s1⟩, e1, e⟩ := map_some e
  obtain ⟨rfl, rfl⟩ := Prod.mk.inj e
  refine h1 B Fr H0 s σ H _ s1 R (test_eq e1) _ fun v H1 H01 x1 R1 q1 => ?_
  cases q1
  exact ⟨b1, rfl, k _ H1 H01 x1 R1 (Dp.bl (!b1))⟩
theorem de_and {rest : List Expr} (ha : DE X a ta f) (hb : DE X (.BoolOp .And (b :: rest) pos) tb g) : DE X (.BoolOp .And (a :: b :: rest) pos) (fun K => tAndV (ta K) (tb K)) (dAndV f g) := ⟨pe_and ha.pe hb.pe, den_andV ha.den hb.den⟩
theorem de_or {rest : List Expr} (ha : DE X a ta f) (hb : DE X (.BoolOp .Or (b :: rest) pos) tb g) : DE X (.BoolOp .Or (a :: b :: rest) pos) (fun K => tOrV (ta K) (tb K)) (dOrV f g) := ⟨pe_or ha.pe hb.pe, den_orV ha.den hb.den⟩
theorem de_one {op} (ha : DE X a ta f) : DE X (.BoolOp op [a] pos) ta f := ⟨pe_one ha.pe, ha.den⟩
theorem de_not (ha : DE X a ta f) : DE X (.UnaryOp .Not a pos) (fun K => tNotV (ta K)) (dNotV f) := ⟨pe_not ha.pe, den_notV ha.den⟩
theorem de_if (hc : DTe X c tt t) (ha : DE X a ta f) (hb : DE X b tb g) : DE X (.IfExp c a b pos) (fun K => tIf (tt K) (ta K) (tb K)) (dIf t f g) := ⟨pe_ifExp hc.pt ha.pe hb.pe, den_ifE hc.den ha.den hb.den⟩
/-- a op b op' c -/
def dChain (op op' : PyData → PyData → Option PV) (f g h : DF) : DF := fun s => (f s).bind fun p => (g p.2).bind fun q => (p.1.hold.dat q.2).bind fun x => (q.1.hold.dat q.2).bind fun y => (op x y).bind fun z => match z with
  | .d (.bool true) => (h q.2).bind fun w => (q.1.hold.dat w.2).bind fun y' => (w.1.hold.dat w.2).bind fun z => (op' y' z).map fun r => (r.rv, w.2)
  | .d (.bool false) => some (.d (.bool false), q.2)
  | _ => none
theorem den_chain {K : PySem.W.Frag} {ta tb tc : TE} {rr rr' : R2} {op op' : PyData → PyData → Option PV} (ho : Den2 K rr op) (ho' : Den2 K rr' op') (ha : DenE K ta f) (hb : DenE K tb g) (hc : DenE K tc h) : DenE K (tChain rr rr' ta tb tc) (dChain op op' f g h) := by
  intro B Fr H0 s σ H r s' R e Q k
  obtain ⟨⟨r1, s1⟩, e1, e⟩ := bind_some e
  obtain ⟨⟨r2, s2⟩, e2, e⟩ := bind_some e
  obtain ⟨x, e3, e⟩ := bind_some e
  obtain ⟨y, e4, e⟩ := bind_some e
  obtain ⟨z, e5, e⟩ := bind_some e
  refine ha B Fr H0 s σ H r1 s1 R e1 _ fun v1 H1 H01 x1 R1 q1 => ?_
  obtain ⟨H02, x2, R2, q2⟩ := q1.hold R1
  refine hb B Fr H02 s1 σ H1 r2 s2 R2 e2 _ fun v2 H2 H03 x3 R3 q3 => ?_
  obtain ⟨H04, x4, R4, q4⟩ := q3.hold R3
  have x14 := ((x1.trans x2).trans x3).trans x4
  dsimp only at e
  split at e
  · refine ho H04 H2 v1 v2 x y _ _ R4.e0 ((q2.up (x3.trans x4)).dq R4 e3) (q4.dq R4 e4) e5 (out_of R4 fun v H' H0' x5 R5 q5 => ?_)
    cases q5
    refine ⟨true, rfl, ite_tt ?_⟩
    obtain ⟨⟨r6, s6⟩, e6, e⟩ := bind_some e
    obtain ⟨y', e7, e⟩ := bind_some e
    obtain ⟨z', e8, e⟩ := bind_some e
    obtain ⟨w, e9, e⟩ := map_some e
    obtain ⟨rfl, rfl⟩ := Prod.mk.inj e
    refine hc B Fr H0' s2 σ H' r6 s6 R5 e6 _ fun v6 H6 H06 x6 R6 q6 => ?_
    obtain ⟨H07, x7, R7, q7⟩ := q6.hold R6
    refine ho' H07 H6 v2 v6 y' z' w Q R7.e0 ((q4.up ((x5.trans x6).trans x7)).dq R7 e7) (q7.dq R7 e8) e9 (out_of R7 fun v H' H0' x8 R8 q8 => ?_)
    exact k v H' H0' (((x14.trans x5).trans x6).trans (x7.trans x8)) R8 q8
  · refine ho H04 H2 v1 v2 x y _ _ R4.e0 ((q2.up (x3.trans x4)).dq R4 e3) (q4.dq R4 e4) e5 (out_of R4 fun v H' H0' x5 R5 q5 => ?_)
    cases q5
    obtain ⟨rfl, rfl⟩ := Prod.mk.inj (Option.some.inj e)
    exact ⟨false, rfl, ite_ff (k _ H' H0' (x14.trans x5) R5 (Dp.bl false))⟩
  · cases e
theorem de_chain {op op' : CmpOp} {od od' : PyData → PyData → Option PV} (ho : OpR X (compareOp op) (rOf2 X.K od)) (ho' : OpR X (compareOp op') (rOf2 X.K od')) (ha : DE X a ta f) (hb : DE X b tb g) (hc : DE X c tc h)
    (hm : lastMarks [op, op'] [b, c] = false := by with_unfolding_all rfl) : DE X (.Compare a [op, op'] [b, c] pos) (fun K => tChain (rOf2 K od) (rOf2 K od') (ta K) (tb K) (tc K)) (dChain od od' f g h) := ⟨pe_chain ho ho' ha.pe hb.pe hc.pe hm, den_chain den2_of den2_of ha.den hb.den hc.den⟩
theorem dt_chain {op op' : CmpOp} {od od' : PyData → PyData → Option PV} (ho : OpR X (compareOp op) (rOf2 X.K od)) (ho' : OpR X (compareOp op') (rOf2 X.K od')) (ha : DE X a ta f) (hb : DE X b tb g) (hc : DE X c tc h)
    (hm : lastMarks [op, op'] [b, c] = false := by with_unfolding_all rfl) : DTe X (.Compare a [op, op'] [b, c] pos) (fun K => tTest (tChain (rOf2 K od) (rOf2 K od') (ta K) (tb K) (tc K))) (dTest (dChain od od' f g h)) := ⟨pt_chain ho ho' ha.pe hb.pe hc.pe hm, den_test (den_chain den2_of den2_of ha.den hb.den hc.den)⟩
/-! arguments, displays, calls -/
theorem da_nil : DAs X [] (fun _ => tNil) dNil := ⟨pa_nil, den_nil, fun s p h => by
  obtain rfl := Option.some.inj h
  rfl⟩
theorem da_cons (ha : DE X e te f) (hr : DAs X es tas fa) (hs : starEach (e :: es) X.env = (false, eval e X.env) :: starEach es X.env := by rfl) : DAs X (e :: es) (fun K => tCons (te K) (tas K)) (dCons f fa) := ⟨pa_cons ha.pe hr.pa hs, den_cons ha.den hr.den, fun s p h => by
  obtain ⟨q, e1, h⟩ := bind_some h
  obtain ⟨w, e2, rfl⟩ := map_some h
  show (q.1.hold :: w.1).length = _
  rw [List.length_cons, hr.len _ _ e2]
  rfl⟩
theorem de_tup {x1} (h : DAs X es tas fa) : DE X (.Tuple es x1 pos) (fun K => tTup (tas K)) (dTup fa) := ⟨pe_tup h.pa, den_tup h.den⟩
theorem de_lst (h : DAs X es tas fa) : DE X (.List es pos) (fun K => tLst (tas K)) (dLst fa) := ⟨pe_lst h.pa, den_lst h.den⟩
theorem de_cb {x : Str} {p : Pos} {id : String} {op : List PyData → Option PV} (hc : CallR X (.builtin id) (rOfB X.K op)) (hg : Gl X x) (hm : X.mg x = none) (hv : bootBuiltins x = some (.builtin id)) (ha : DAs X (e :: es) tas fa) (hn : x ≠ "__name__" := by decide) (hdb : (x == ("__debug__" : Str)) = false := by decide)
    (he : starEach (e :: es) X.env = (false, eval e X.env) :: starEach es X.env := by rfl) (hpl : (backTo pos (starEach es X.env)).any (·.1) = false := by rfl) : DE X (.Call (.Name x p) (e :: es) [] pos) (fun K => tCB (rOfB K op) (tas K)) (dCB op fa) := ⟨pe_callB hc hg hm hv ha.pa hn hdb he hpl, den_cb denB_of ha.den⟩
theorem de_ct {x : Str} {p : Pos} {T : String} {op : List PyData → Option PV} (hc : CallR X (.type T) (rOfB X.K op)) (hg : Gl X x) (hm : X.mg x = none) (hv : bootBuiltins x = some (.type T)) (ha : DAs X (e :: es) tas fa) (hn : x ≠ "__name__" := by decide) (hdb : (x == ("__debug__" : Str)) = false := by decide)
    (he : starEach (e :: es) X.env = (false, eval e X.env) :: starEach es X.env := by rfl) (hpl : (backTo pos (starEach es X.env)).any (·.1) = false := by rfl) : DE X (.Call (.Name x p) (e :: es) [] pos) (fun K => tCB (rOfB K op) (tas K)) (dCB op fa) := ⟨pe_callTy hc hg hm hv ha.pa hn hdb he hpl, den_cb denB_of ha.den⟩
theorem de_isi {x : Str} {p q : Pos} {T : String} (hg : Gl X "isinstance") (hm : X.mg "isinstance" = none) (gT : Gl X x) (mT : X.mg x = none) (hv : bootBuiltins x = some (.type T)) (he : DE X e te f) (hn : x ≠ "__name__" := by decide) (hdb : (x == ("__debug__" : Str)) = false := by decide)
    (h1 : starEach [e, .Name x q] X.env = (false, eval e X.env) :: starEach [.Name x q] X.env := by rfl) (h2 : starEach [.Name x q] X.env = (false, eval (.Name x q) X.env) :: starEach [] X.env := by rfl) (hpl : (backTo pos (starEach [.Name x q] X.env)).any (·.1) = false := by rfl) :
    DE X (.Call (.Name "isinstance" p) [e, .Name x q] [] pos) (fun K => tCB (rIsi K) (tCons (te K) (tCons (tC (.ty T)) tNil))) (dUn (opIsi T) f) :=
  ⟨pe_callB call_isi hg hm (by decide +kernel) (pa_cons he.pe (pa_cons (pe_bltn (v := .ty T) gT mT hv rfl hn hdb) pa_nil h2) h1) (by decide) (by decide) h1 hpl, den1_isi T he.den fun e0 h => ty_of e0 h⟩
/-- a def of the text, by its name -/
def Has (P : Program) (w : World) (K : PySem.W.Frag) (mg : Str → Option Value) (base : Heap) (k : Nat) (x : Str) (ps : List Str) (F : DFun) : Prop :=
  ∃ (fa : Addr) (fd : FuncData), mg x = some (.ref fa) ∧ PySem.W.keepIn K (.ref fa) = true ∧ Binds K fd ps [] ∧ XG.FnG P w K mg base CX0 k fa fd ps (spD K ps.length F)
end
end XN

set_option maxRecDepth 100000
set_option maxHeartbeats 4000000
/-! the rules by syntax: calls of defs, slices, statements, comprehensions, defs -/
namespace XN
open PySem PySem.Spec PyProof.Rows L2 Evl

/-- an end of a slice -/
def dNoP : SS → Option (Option Int × SS) := fun s => some (none, s)
def dPart (f : DF) : SS → Option (Option Int × SS) := fun s => (f s).bind fun p => match p.1 with
  | .d (.int i) => some (some i, p.2)
  | _ => none
def DenO (K : PySem.W.Frag) (to : TO) (f : SS → Option (Option Int × SS)) : Prop := ∀ (B : Option Addr) (Fr H0 : Hp) (s : SS) (σ : L2.St) (H : Hp) (o : Option Int) (s' : SS), Rel K B Fr H0 s σ H → f s = some (o, s') → ∀ Q : Option Int → Hp → Prop,
  (∀ H' H0', Ex H0 H0' → Rel K B Fr H0' s' σ H' → Q o H') → to σ H Q
structure DO (X : Cx) (e : Option Expr) (to : PySem.W.Frag → TO) (f : SS → Option (Option Int × SS)) : Prop where
  po : PO X e (to X.K)
  den : DenO X.K (to X.K) f
def dSl (f : DF) (lo hi : SS → Option (Option Int × SS)) : DF := fun s => (f s).bind fun p => (lo p.2).bind fun q => (hi q.2).bind fun w => (p.1.hold.dat w.2).bind fun x => (opSl x q.1 w.1).map fun z => (z.rv, w.2)
section
variable {X : Cx} {a b c e : Expr} {es : List Expr} {ta tb tc te : PySem.W.Frag → TE} {tt tu : PySem.W.Frag → TT} {tas : PySem.W.Frag → TA} {f g h : DF} {t u : DT} {fa : DA} {pos : Pos} {tl th : PySem.W.Frag → TO} {fl fh : SS → Option (Option Int × SS)}
theorem do_none : DO X none (fun _ => tNoPart) dNoP := ⟨po_none, by
  intro B Fr H0 s σ H o s' R e Q k
  obtain ⟨rfl, rfl⟩ := Prod.mk.inj (Option.some.inj e)
  exact k H H0 (Ex.refl _) R⟩
theorem do_some (h : DE X e te f) : DO X (some e) (fun K => tPart (te K)) (dPart f) := ⟨po_some h.pe, by
  intro B Fr H0 s σ H o s' R e Q k
  obtain ⟨⟨r, s1⟩, e1, e⟩ := bind_some e
  dsimp only at e
  split at e
  · obtain ⟨rfl, rfl⟩ := Prod.mk.inj (Option.some.inj e)
    refine h.den B Fr H0 s σ H _ s1 R e1 _ fun v H1 H01 x1 R1 q1 => ?_
    cases q1
    exact ⟨_, rfl, k H1 H01 x1 R1⟩
  · cases e⟩
theorem den_sl {K : PySem.W.Frag} {te : TE} {tl th : TO} {rr : V → Option Int → Option Int → Hp → VK → Prop} (hr : rr = rOfS K opSl) (ha : DenE K te f) (hl : DenO K tl fl) (hh : DenO K th fh) : DenE K (tSl rr te tl th) (dSl f fl fh) := by
  subst hr
  intro B Fr H0 s σ H r s' R e Q k
  obtain ⟨⟨r1, s1⟩, e1, e⟩ := bind_some e
  obtain ⟨⟨lo, s2⟩, e2, e⟩ := bind_some e
  obtain ⟨⟨hi, s3⟩, e3, e⟩ := bind_some e
  obtain ⟨x, e4, e⟩ := bind_some e
  obtain ⟨z, e5, e⟩ := map_some e
  obtain ⟨rfl, rfl⟩ := Prod.mk.inj e
  refine ha B Fr H0 s σ H r1 s1 R e1 _ fun v1 H1 H01 x1 R1 q1 => ?_
  obtain ⟨H02, x2, R2, q2⟩ := q1.hold R1
  refine hl B Fr H02 s1 σ H1 lo s2 R2 e2 _ fun H2 H03 x3 R3 => ?_
  refine hh B Fr H03 s2 σ H2 hi s3 R3 e3 _ fun H3 H04 x4 R4 => ?_
  exact ⟨H04, x, z, R4.e0, (q2.up (x3.trans x4)).dq R4 e4, e5, out_of R4 fun v H' H0' x5 R5 q5 => k v H' H0' (((x1.trans x2).trans (x3.trans x4)).trans x5) R5 q5⟩
theorem de_sl {lo hi : Option Expr} {p2 : Pos} (he : DE X e te f) (hl : DO X lo tl fl) (hh : DO X hi th fh) : DE X (.Subscript e (.Slice lo hi none p2) pos) (fun K => tSl (rOfS K opSl) (te K) (tl K) (th K)) (dSl f fl fh) := ⟨pe_slice sl_of he.pe hl.po hh.po, den_sl rfl he.den hl.den hh.den⟩
theorem de_call {x : Str} {p : Pos} {k : Nat} {ps : List Str} {F : DFun} (hf : Has X.prog X.w X.K X.mg X.base k x ps F) (hg : X.A.guards = some []) (hr : Room k X.A) (gl : Gl X x) (ha : DAs X (e :: es) tas fa) (hn : (e :: es).length = ps.length := by rfl)
    (hdb : (x == ("__debug__" : Str)) = false := by decide) (he : starEach (e :: es) X.env = (false, eval e X.env) :: starEach es X.env := by rfl) (hpl : (backTo pos (starEach es X.env)).any (·.1) = false := by rfl) :
    DE X (.Call (.Name x p) (e :: es) [] pos) (fun K => tCall (spD K ps.length F) [] E0 (tas K)) (dCall F fa) := by
  obtain ⟨af, fd, hm, hk, hb, FG⟩ := hf
  exact ⟨XG.pe_g FG hg hr gl hm hk hb pass0 ha.pa hdb he hpl, den_call ha.den fun s p h => (ha.len s p h).trans hn⟩

/-! ### statements -/
variable {ts us : PySem.W.Frag → TS} {fs gs : DS} {st : Stmt} {sts rest : List Stmt}
theorem dss_nil : DSs X [] (fun _ => tNext) dNx := ⟨pss_nil, den_nx⟩
theorem dss_one (h : DSt X st ts fs) : DSs X [st] ts fs := ⟨pss_one h.ps, h.den⟩
theorem dss_cons (h1 : DSt X st ts fs) (h2 : DSs X rest us gs) : DSs X (st :: rest) (fun K => tSeq (ts K) (us K)) (dSeq fs gs) := ⟨pss_cons h1.ps h2.ps, den_seq h1.den h2.den⟩
theorem ds_set (i : Nat) {x : Str} {pos' : Pos} (hN : X.N.Nodup) (he : DE X e te f) (hi : X.N[i]? = some x := by rfl) (hx : Loc X.env.scope x := by first | exact .inl rfl | exact .inr rfl) (hs : swapsWith e (some (.Name x pos')) pos.line X.env = pure false := by rfl)
    (hf : X.fn x = true ∨ X.env.scope.names.lookup x = some .local := by first | exact .inl rfl | exact .inr rfl) : DSt X (.Assign [.Name x pos'] e pos) (fun K => tAsg (te K) (gName i)) (dSet i f) := ⟨ps_set hN hi hx he.pe hs hf, den_set he.den⟩
theorem ds_drop (he : DE X e te f) (hs : swapsWith e none pos.line X.env = pure false := by rfl) : DSt X (.Expr e pos) (fun K => tDrop (te K)) (dDrop f) := ⟨ps_expr he.pe hs, den_drop he.den⟩
theorem ds_ret (he : DE X e te f) : DSt X (.Return (some e) pos) (fun K => tRet (te K)) (dRet f) := ⟨ps_ret he.pe, den_ret he.den⟩
theorem ds_retN : DSt X (.Return none pos) (fun _ => tRetN) dRetN := ⟨ps_retN, den_retN⟩
theorem ds_if {p q : List Stmt} (hc : DTe X c tt t) (hp : DSs X p ts fs) (hq : DSs X q us gs) : DSt X (.If c p q pos) (fun K => tIfS (tt K) (ts K) (us K)) (dIfS t fs gs) := ⟨ps_if hc.pt hp.ps hq.ps, den_ifS hc.den hp.den hq.den⟩
theorem ds_break : DSt X (.Break pos) (fun _ => tBreak) dBk := ⟨ps_break, den_bk⟩
theorem ds_continue : DSt X (.Continue pos) (fun _ => tCont) dCt := ⟨ps_continue, den_ct⟩
theorem ds_pass : DSt X (.Pass pos) (fun _ => tNext) dNx := ⟨ps_pass, den_nx⟩
theorem ds_doc {x : Str} {j p} : DSt X (.Expr (.Constant (.str x) j p) pos) (fun _ => tNext) dNx := ⟨ps_doc, den_nx⟩
theorem dg_name (i : Nat) {x : Str} (hN : X.N.Nodup) (hi : X.N[i]? = some x := by rfl) (hx : Loc X.env.scope x := by first | exact .inl rfl | exact .inr rfl) (hf : X.fn x = true ∨ X.env.scope.names.lookup x = some .local := by first | exact .inl rfl | exact .inr rfl) : DGt X (.Name x pos) (fun _ => gName i) (dName i) := ⟨pg_name hN hi hx hf, den_name i⟩
theorem di_any {tg : Expr} (h : DE X e te f) : DIt X tg e (fun K => iAny K (te K)) (dItems f) := ⟨pi_any h.pe, den_items h.den⟩
theorem di_rng1 {tg : Expr} {p : Pos} (hg : Gl X "range") (hm : X.mg "range" = none) (ha : DAs X [a] tas fa) (hs : starEach [a] X.env = [(false, eval a X.env)] := by rfl) : DIt X tg (.Call (.Name "range" p) [a] [] pos) (fun K => iRng1 (tas K)) (dRng1 fa) := ⟨pi_range1 hg hm ha.pa hs, den_rng1 ha.den⟩
theorem di_rng2 {tg : Expr} {p : Pos} (hg : Gl X "range") (hm : X.mg "range" = none) (ha : DAs X [a, b] tas fa) (hs : starEach [a, b] X.env = [(false, eval a X.env), (false, eval b X.env)] := by rfl) (hs2 : starEach [b] X.env = [(false, eval b X.env)] := by rfl) :
    DIt X tg (.Call (.Name "range" p) [a, b] [] pos) (fun K => iRng2 (tas K)) (dRng2 fa) := ⟨pi_range2 hg hm ha.pa hs hs2, den_rng2 ha.den⟩
theorem ds_for {tg iter : Expr} {body : List Stmt} {wi : PySem.W.Frag → TI} {tgt : PySem.W.Frag → TG} {fi : DI} {fg : DG} (hp : PassesOwn (model X.prog X.w) X.A X.env X.xe) (hc : X.calm = true) (hi : DIt X tg iter wi fi) (hg : DGt X tg tgt fg) (hb : DSs X body ts fs)
    (hs : ∀ x, foldedSetIterable iter X.env x = pure x := by intro _; rfl) : DSt X (.For tg iter body [] pos) (fun K => tFor (wi K) (tgt K) (ts K)) (dFor fi fg fs) := ⟨ps_for hp hc hi.pi hg.pg hb.ps hs, den_for hi.den hg.den hb.den⟩
theorem ds_while {body : List Stmt} (hp : PassesOwn (model X.prog X.w) X.A X.env X.xe) (hc : DTe X c tt t) (hb : DSs X body ts fs) : DSt X (.While c body [] pos) (fun K => tWhile (tt K) (ts K)) (dWhile t fs) := ⟨ps_while hp hc.pt hb.ps, den_while hc.den hb.den⟩
theorem ds_app (i : Nat) {x : Str} {p apos cpos : Pos} (he : DE X e te f) (hN : X.N[i]? = some x := by rfl) (hv : Vis X.env.scope x := by first | exact Or.inl rfl | exact Or.inr (Or.inl rfl) | exact Or.inr (Or.inr rfl)) (hd : (x == ("__debug__" : Str)) = false := by decide)
    (hcd : (x == ("__classdict__" : Str)) = false := by decide) (hbase : attributeBase (.Name x p) "append" X.env (eval (.Name x p) X.env) = eval (.Name x p) X.env := by rfl)
    (hfew : ((backTo cpos (starEach [e] X.env)).all (fun x => !x.1) && (backToKw cpos (keywordEach [] X.env)).all (fun x => x.1.isSome) && decide (([e] : List Expr).length + ([] : List Keyword).length + (if ([] : List Keyword).isEmpty then 0 else 1) < 30)) = true := by rfl)
    (hline : (apos.endLine == cpos.line) = true := by rfl) (h1 : starEach [e] X.env = (false, eval e X.env) :: starEach [] X.env := by rfl) (hpl : (backTo cpos (starEach [] X.env)).any (·.1) = false := by rfl)
    (hs : swapsWith (.Call (.Attribute (.Name x p) "append" apos) [e] [] cpos) none pos.line X.env = pure false := by rfl) :
    DSt X (.Expr (.Call (.Attribute (.Name x p) "append" apos) [e] [] cpos) pos) (fun K => tDrop (tBM K "list" rAppend (tVar i) (tCons (te K) tNil))) (dApp i f) :=
  ⟨ps_expr (pe_bm PySem.F.plainAttrs_list PySem.F.slot_list_append PySem.F.type_list_append mt_append (pv i hN hv hd hcd) (pa_cons he.pe pa_nil h1) hbase hfew hline h1 hpl) hs, den_app he.den⟩
theorem de_pop (i : Nat) {x : Str} {p apos cpos : Pos} (he : DE X e te f) (hN : X.N[i]? = some x := by rfl) (hv : Vis X.env.scope x := by first | exact Or.inl rfl | exact Or.inr (Or.inl rfl) | exact Or.inr (Or.inr rfl)) (hd : (x == ("__debug__" : Str)) = false := by decide)
    (hcd : (x == ("__classdict__" : Str)) = false := by decide) (hbase : attributeBase (.Name x p) "pop" X.env (eval (.Name x p) X.env) = eval (.Name x p) X.env := by rfl)
    (hfew : ((backTo cpos (starEach [e] X.env)).all (fun x => !x.1) && (backToKw cpos (keywordEach [] X.env)).all (fun x => x.1.isSome) && decide (([e] : List Expr).length + ([] : List Keyword).length + (if ([] : List Keyword).isEmpty then 0 else 1) < 30)) = true := by rfl)
    (hline : (apos.endLine == cpos.line) = true := by rfl) (h1 : starEach [e] X.env = (false, eval e X.env) :: starEach [] X.env := by rfl) (hpl : (backTo cpos (starEach [] X.env)).any (·.1) = false := by rfl) :
    DE X (.Call (.Attribute (.Name x p) "pop" apos) [e] [] cpos) (fun K => tBM K "list" rPopAt (tVar i) (tCons (te K) tNil)) (dPop i f) :=
  ⟨pe_bm PySem.F.plainAttrs_list PySem.F.slot_list_pop PySem.F.type_list_pop mt_popAt (pv i hN hv hd hcd) (pa_cons he.pe pa_nil h1) hbase hfew hline h1 hpl, den_pop he.den⟩
theorem ds_box (i j : Nat) {x : Str} {p p1 p2 : Pos} {jj} (he : DE X e te f) (hN : X.N[i]? = some x := by rfl) (hv : Vis X.env.scope x := by first | exact Or.inl rfl | exact Or.inr (Or.inl rfl) | exact Or.inr (Or.inr rfl)) (hd : (x == ("__debug__" : Str)) = false := by decide)
    (hcd : (x == ("__classdict__" : Str)) = false := by decide)
    (ha : ∀ v, assign (.Subscript (.Name x p) (.Constant (.int j) jj p1) p2) X.env v = (do
      let ov ← holding [v] (eval (.Name x p) X.env)
      let iv ← holding [v, ov] (eval (.Constant (.int j) jj p1) X.env)
      standAt p2
      holding [v, ov, iv] (setItem ov iv v)
      release [v, ov, iv] []) := by intro _; rfl)
    (hs : swapsWithSole [.Subscript (.Name x p) (.Constant (.int j) jj p1) p2] e pos.line X.env = pure false := by rfl) (hw : swappedStores [.Subscript (.Name x p) (.Constant (.int j) jj p1) p2] e X.env = pure none := by rfl)
    (h1 : (assignEach [.Subscript (.Name x p) (.Constant (.int j) jj p1) p2] X.env).map (·.2) = [assign (.Subscript (.Name x p) (.Constant (.int j) jj p1) p2) X.env] := by rfl) :
    DSt X (.Assign [.Subscript (.Name x p) (.Constant (.int j) jj p1) p2] e pos) (fun K => tAsg (te K) (gSub (tVar i) (tC (.int j)) rSetL)) (dBoxSet i j f) :=
  ⟨ps_asg he.pe (pg_sub (pv i hN hv hd hcd) pe_int set_list ha) hs hw h1, den_boxSet (den_c fun _ => .int _) he.den⟩
end
end XN

set_option maxRecDepth 100000
set_option maxHeartbeats 4000000
/-! comprehensions by syntax; a, b = x, y; a def from its body -/
namespace XN
open PySem PySem.Spec PyProof.Rows L2 Evl

structure DIo' (X : Cx) (vs : List Nat) (tg iter : Expr) (wi : PySem.W.Frag → TI) (f : DIo) : Prop where
  pi : PI X tg iter (wi X.K)
  den : DenIo X.K vs (wi X.K) f
structure DGw (X : Cx) (vs : List Nat) (tg : Expr) (g : PySem.W.Frag → TG) (f : DG) : Prop where
  pg : PG X tg (g X.K)
  den : DenGw X.K vs (g X.K) f
structure DTs (X : Cx) (es : List Expr) (tt : PySem.W.Frag → TT) (f : DT) : Prop where
  pts : PTs X es (tt X.K)
  den : DenT X.K (tt X.K) f
/-- a result for a slot: data, or a new list -/
def RV.solid : RV → Option SV
  | .d x => some (.d x)
  | .fresh xs => some (.own xs)
  | _ => none
def dPar (i j : Nat) (f g : DF) : DS := fun s => (f s).bind fun p => (g p.2).bind fun q => p.1.solid.bind fun u => q.1.solid.bind fun w => if i ≠ j ∧ i < q.2.e.length ∧ j < q.2.e.length then some (.nx, ⟨(q.2.e.set i (some u)).set j (some w), q.2.b⟩) else none
section
variable {X : Cx} {a b c e : Expr} {es : List Expr} {ta tb tc te : PySem.W.Frag → TE} {tt tu : PySem.W.Frag → TT} {tas : PySem.W.Frag → TA} {f g h : DF} {t u : DT} {fa : DA} {pos : Pos} {ts us : PySem.W.Frag → TS} {fs gs : DS} {st : Stmt} {sts rest : List Stmt}
theorem dio_any {vs : List Nat} {tg : Expr} (h : DE X e te f) : DIo' X vs tg e (fun K => iAny K (te K)) (dIo (dItems f)) := ⟨pi_any h.pe, den_io vs (den_items h.den)⟩
theorem dio_v {vs : List Nat} {tg : Expr} (i : Nat) {x : Str} (hN : X.N[i]? = some x := by rfl) (hv : Vis X.env.scope x := by first | exact Or.inl rfl | exact Or.inr (Or.inl rfl) | exact Or.inr (Or.inr rfl)) (hd : (x == ("__debug__" : Str)) = false := by decide)
    (hcd : (x == ("__classdict__" : Str)) = false := by decide) : DIo' X vs tg (.Name x pos) (fun K => iAny K (tVar i)) (dItV vs i) := ⟨pi_any (pv i hN hv hd hcd), den_itv vs i⟩
theorem dio_of {vs : List Nat} {tg : Expr} {wi : PySem.W.Frag → TI} {fi : DI} (h : DIt X tg e wi fi) : DIo' X vs tg e wi (dIo fi) := ⟨h.pi, den_io vs h.den⟩
theorem dgw_name {vs : List Nat} (i : Nat) {x : Str} (hN : X.N.Nodup) (hm : i ∈ vs := by decide) (hi : X.N[i]? = some x := by rfl) (hx : Loc X.env.scope x := by first | exact .inl rfl | exact .inr rfl) (hf : X.fn x = true ∨ X.env.scope.names.lookup x = some .local := by first | exact .inl rfl | exact .inr rfl) : DGw X vs (.Name x pos) (fun _ => gName i) (dName i) := ⟨pg_name hN hi hx hf, den_nameW hm⟩
theorem dts_nil : DTs X [] (fun _ => tYes) dYes := ⟨pts_nil, den_yes⟩
theorem dts_one (h : DTe X c tt t) : DTs X [c] tt t := ⟨pts_one h.pt, h.den⟩
theorem de_lc {elt tg iter : Expr} {ifs : List Expr} {scope : Scope} {wi : PySem.W.Frag → TI} {tgt : PySem.W.Frag → TG} {fi : DIo} {fg : DG} (own : List (Str × Nat)) (hc : X.calm = true) (hN : X.N.Nodup) (hi : DIo' X (own.map (·.2)) tg iter wi fi) (ok : BlkOk X.N X.env.scope scope own)
    (hg : ∀ (s : Shared) (H : Hp) (C : Addr) (cl : List (Str × Addr)) (fp : List Addr), DGw (X.blk s H scope (compEnvC scope cl C X.env) fp) (own.map (·.2)) tg tgt fg)
    (ht : ∀ (s : Shared) (H : Hp) (C : Addr) (cl : List (Str × Addr)) (fp : List Addr), DTs (X.blk s H scope (compEnvC scope cl C X.env) fp) ifs tt t)
    (he : ∀ (s : Shared) (H : Hp) (C : Addr) (cl : List (Str × Addr)) (fp : List Addr), DE (X.blk s H scope (compEnvC scope cl C X.env) fp) elt te f) (hs : ∀ x, foldedSetIterable iter X.env x = pure x := by intro _; rfl) :
    DE X (.ListComp elt [⟨tg, iter, ifs, 0⟩] scope pos) (fun K => tLc (wi K) (tgt K) (tt K) (te K) (own.map (·.2))) (dLc (own.map (·.2)) fi fg t f) := by
  exact ⟨pe_lc hc hN hi.pi ok (fun s H C cl fp => (hg s H C cl fp).pg) (fun s H C cl fp => (ht s H C cl fp).pts) (fun s H C cl fp => (he s H C cl fp).pe) hs,
    den_lc hi.den (hg X.s_0 X.H_0 0 [] []).den (ht X.s_0 X.H_0 0 [] []).den (he X.s_0 X.H_0 0 [] []).den⟩
theorem ds_setLc (i : Nat) {y : Str} {py spos : Pos} {elt tg iter : Expr} {ifs : List Expr} {scope : Scope} {wi : PySem.W.Frag → TI} {tgt : PySem.W.Frag → TG} {fi : DIo} {fg : DG} (own : List (Str × Nat)) (hc : X.calm = true) (hN : X.N.Nodup) (hi : DIo' X (own.map (·.2)) tg iter wi fi) (ok : BlkOk X.N X.env.scope scope own)
    (hg : ∀ (s : Shared) (H : Hp) (C : Addr) (cl : List (Str × Addr)) (fp : List Addr), DGw (X.blk s H scope (compEnvC scope cl C X.env) fp) (own.map (·.2)) tg tgt fg)
    (ht : ∀ (s : Shared) (H : Hp) (C : Addr) (cl : List (Str × Addr)) (fp : List Addr), DTs (X.blk s H scope (compEnvC scope cl C X.env) fp) ifs tt t)
    (he : ∀ (s : Shared) (H : Hp) (C : Addr) (cl : List (Str × Addr)) (fp : List Addr), DE (X.blk s H scope (compEnvC scope cl C X.env) fp) elt te f)
    (hy : X.N[i]? = some y := by rfl) (hyl : X.env.scope.names.lookup y = some .local := by rfl) (hsw : swapsWith (.ListComp elt [⟨tg, iter, ifs, 0⟩] scope pos) (some (.Name y py)) spos.line X.env = pure true := by exact sw_true rfl rfl rfl (by decide +kernel))
    (hs : ∀ x, foldedSetIterable iter X.env x = pure x := by intro _; rfl) :
    DSt X (.Assign [.Name y py] (.ListComp elt [⟨tg, iter, ifs, 0⟩] scope pos) spos) (fun K => tAsg (tLc (wi K) (tgt K) (tt K) (te K) (own.map (·.2))) (gName i)) (dSet i (dLc (own.map (·.2)) fi fg t f)) := by
  exact ⟨ps_setLc hc hN hy hyl hsw hi.pi ok (fun s H C cl fp => (hg s H C cl fp).pg) (fun s H C cl fp => (ht s H C cl fp).pts) (fun s H C cl fp => (he s H C cl fp).pe) hs,
    den_set (den_lc hi.den (hg X.s_0 X.H_0 0 [] []).den (ht X.s_0 X.H_0 0 [] []).den (he X.s_0 X.H_0 0 [] []).den)⟩
end
section
variable {K : PySem.W.Frag} {B : Option Addr} {Fr H0 H0' H H' : Hp} {s s' : SS} {σ : L2.St} {v w : V} {r : RV} {ta tb te : TE} {f g : DF}
/-- a new list that no one knows yet becomes one of others' -/
theorem Rel.protect {p : Addr} {o : HO} (R : Rel K B Fr H0 s σ H) (h0 : H0 p = none) (hf : Fr p = none) (hb : B ≠ some p) (hh : H p = some o) (hs : ∀ (i : Nat) ys, s.e[i]? = some (some (.own ys)) → σ[i]? ≠ some (some (.ref p))) : Rel K B (upd Fr p o) H0 s σ H := by
  have up : ∀ q, q ≠ p → Fr q = none → upd Fr p o q = none := fun q n e => by rw [upd_ne n]; exact e
  refine { e0 := R.e0, ef := fun q u hq => ?_, dj := fun q u hq => ?_, box := fun q hq => ?_, len := R.len, bb := R.bb, sl := fun i u hi => ?_, ne := R.ne }
  · by_cases z : q = p
    · subst z
      rw [upd_same] at hq
      rw [← hq]
      exact hh
    · rw [upd_ne z] at hq
      exact R.ef q u hq
  · by_cases z : q = p
    · rw [z]; exact h0
    · rw [upd_ne z] at hq
      exact R.dj q u hq
  · obtain ⟨a, b, c⟩ := R.box q hq
    exact ⟨a, up q (fun z => hb (by rw [hq, z])) b, c⟩
  · cases u with
    | own xs =>
      obtain ⟨q, vs, hu, h1, h2, h3, h4, h5⟩ := R.sl i _ hi
      exact ⟨q, vs, hu, h1, up q (fun z => hs i xs hi (by rw [hu, z])) h2, h3, h4, h5⟩
    | d x => exact R.sl i _ hi
    | bx => exact R.sl i _ hi
/-- what a solid result is, once it stands in a slot -/
def Sol (K : PySem.W.Frag) (B : Option Addr) (Fr H0 H : Hp) (s : SS) (σ : L2.St) (v : V) (u : SV) : Prop := SlotIs K B Fr H0 H (some (some v)) u ∧ ∀ xs, u = .own xs → ∀ (i : Nat) ys, s.e[i]? = some (some (.own ys)) → σ[i]? ≠ some (some v)
theorem Res.sol {u : SV} (h : Res K B Fr H0 s σ H v r) (e : r.solid = some u) : Sol K B Fr H0 H s σ v u := by
  cases r with
  | d x =>
    obtain rfl := Option.some.inj e
    exact ⟨⟨v, rfl, h⟩, fun _ z => nomatch z⟩
  | fresh xs =>
    obtain rfl := Option.some.inj e
    obtain ⟨p, vs, rfl, h1, h2, h3, h4, h5, h6⟩ := h
    exact ⟨⟨p, vs, rfl, h1, h2, h3, h4, h5⟩, fun _ _ => h6⟩
  | sl i => cases e
  | bx => cases e
theorem pair_eval (ha : DenE K ta f) (hb : DenE K tb g) {s s1 s2 : SS} {r1 r2 : RV} {u1 u2 : SV} (R : Rel K B Fr H0 s σ H) (e1 : f s = some (r1, s1)) (e2 : g s1 = some (r2, s2)) (e3 : r1.solid = some u1) (e4 : r2.solid = some u2) {Q : List V → Hp → Prop}
    (k : ∀ v w H' H0', Ex H0 H0' → Rel K B Fr H0' s2 σ H' → Sol K B Fr H0' H' s2 σ v u1 → Sol K B Fr H0' H' s2 σ w u2 → (∀ xs ys, u1 = .own xs → u2 = .own ys → v ≠ w) → Q [v, w] H') : tCons ta (tCons tb tNil) σ H Q := by
  refine ha B Fr H0 s σ H r1 s1 R e1 _ fun v H1 H01 x1 R1 q1 => ?_
  cases r1 with
  | d x =>
    obtain rfl := Option.some.inj e3
    refine hb B Fr H01 s1 σ H1 r2 s2 R1 e2 _ fun w H2 H02 x2 R2 q2 => ?_
    exact k v w H2 H02 (x1.trans x2) R2 ⟨⟨v, rfl, dp_ex x2 _ _ q1⟩, fun _ z => nomatch z⟩ (q2.sol e4) fun _ _ z => nomatch z
  | fresh xs =>
    obtain rfl := Option.some.inj e3
    obtain ⟨p, vs, rfl, h1, h2, h3, h4, h5, h6⟩ := q1
    refine hb B _ H01 s1 σ H1 r2 s2 (R1.protect h1 h2 h3 h4 h6) e2 _ fun w H2 H02 x2 R2 q2 => ?_
    obtain ⟨R3, a0, ab, ah, as⟩ := R2.unframe h2
    have sol2 := q2.sol e4
    have fr : ∀ q, upd Fr p (.lst vs) q = none → q ≠ p ∧ Fr q = none := fun q e => by
      by_cases z : q = p
      · rw [z, upd_same] at e
        cases e
      · rw [upd_ne z] at e
        exact ⟨z, e⟩
    refine k (.ref p) w H2 H02 (x1.trans x2) R3 ⟨⟨p, vs, rfl, a0, h2, ab, ah, dpa_ex x2 _ _ h5⟩, fun _ _ => as⟩ ⟨?_, sol2.2⟩ fun xs ys z1 z2 z => ?_
    · cases u2 with
      | d x => exact sol2.1
      | own ys =>
        obtain ⟨q, us, hq, b0, b1, b2, b3, b4⟩ := sol2.1
        exact ⟨q, us, hq, b0, (fr q b1).2, b2, b3, b4⟩
      | bx => exact sol2.1
    · subst z2
      obtain ⟨q, us, hq, b0, b1, b2, b3, b4⟩ := sol2.1
      cases hq
      cases z
      exact (fr _ b1).1 rfl
  | sl i => cases e3
  | bx => cases e3
theorem par_end {i j : Nat} {u1 u2 : SV} (R : Rel K B Fr H0 s σ H) (h1 : Sol K B Fr H0 H s σ v u1) (h2 : Sol K B Fr H0 H s σ w u2) (hn : ∀ xs ys, u1 = .own xs → u2 = .own ys → v ≠ w) (hl : i ≠ j ∧ i < s.e.length ∧ j < s.e.length) :
    Rel K B Fr H0 ⟨(s.e.set i (some u1)).set j (some u2), s.b⟩ ((σ.set i (some v)).set j (some w)) H := by
  have R1 := R.putW (i := i) (by rw [← R.len]; exact hl.2.1) h1.1 h1.2
  refine Rel.putW (s := ⟨s.e.set i (some u1), s.b⟩) R1 (by rw [List.length_set, ← R.len]; exact hl.2.2) h2.1 fun xs z k ys hk hq => ?_
  have hk : (s.e.set i (some u1))[k]? = some (some (.own ys)) := hk
  by_cases y : i = k
  · rw [y, List.getElem?_set_self (by rw [← y]; exact hl.2.1)] at hk
    rw [y, List.getElem?_set_self (by rw [← y, ← R.len]; exact hl.2.1)] at hq
    cases hk
    cases hq
    exact hn _ _ rfl z rfl
  · rw [List.getElem?_set_ne y] at hk hq
    exact h2.2 xs z k ys hk hq
theorem den_par {i j : Nat} (ha : DenE K ta f) (hb : DenE K tb g) : DenS K (tPar i j (tCons ta (tCons tb tNil))) (dPar i j f g) := by
  intro B Fr H0 s σ H o s' R e D k
  obtain ⟨⟨r1, s1⟩, e1, e⟩ := bind_some e
  obtain ⟨⟨r2, s2⟩, e2, e⟩ := bind_some e
  obtain ⟨u1, e3, e⟩ := bind_some e
  obtain ⟨u2, e4, e⟩ := bind_some e
  dsimp only at e
  split at e
  · rename_i hl
    obtain ⟨rfl, rfl⟩ := Prod.mk.inj (Option.some.inj e)
    exact pair_eval ha hb R e1 e2 e3 e4 fun v w H1 H01 x1 R1 h1 h2 hn => ⟨v, w, rfl, k _ H1 H01 x1 (par_end R1 h1 h2 hn hl)⟩
  · cases e
theorem den_parT {i j : Nat} (ha : DenE K ta f) (hb : DenE K tb g) : DenS K (tAsg (tTup (tCons ta (tCons tb tNil))) (gTup K 2 (gCons (gName i) (gCons (gName j) gNil)))) (dPar i j f g) := by
  intro B Fr H0 s σ H o s' R e D k
  obtain ⟨⟨r1, s1⟩, e1, e⟩ := bind_some e
  obtain ⟨⟨r2, s2⟩, e2, e⟩ := bind_some e
  obtain ⟨u1, e3, e⟩ := bind_some e
  obtain ⟨u2, e4, e⟩ := bind_some e
  dsimp only at e
  split at e
  · rename_i hl
    obtain ⟨rfl, rfl⟩ := Prod.mk.inj (Option.some.inj e)
    show tCons ta (tCons tb tNil) σ H fun xs H1 => xs.length ≤ sizeLine ∧ ∀ p, H1 p = none → gTup K 2 (gCons (gName i) (gCons (gName j) gNil)) (.ref p) σ (upd H1 p (.tup xs)) D.nx
    refine pair_eval ha hb R e1 e2 e3 e4 fun v w H1 H01 x1 R1 h1 h2 hn => ⟨sz_of (by show 2 ≤ 100000; decide), fun p hp => ?_⟩
    have up : ∀ {x : V} {u : SV}, Sol K B Fr H01 H1 s2 σ x u → Sol K B Fr H01 (upd H1 p (.tup [v, w])) s2 σ x u := fun {x u} h => by
      refine ⟨?_, h.2⟩
      cases u with
      | own xs =>
        obtain ⟨q, us, hq, b0, b1, b2, b3, b4⟩ := h.1
        exact ⟨q, us, hq, b0, b1, b2, by rw [upd_ne (ne_of_none b3 hp)]; exact b3, b4⟩
      | d x => exact h.1
      | bx => exact h.1
    exact ⟨p, [v, w], rfl, st_of upd_same, rfl, v, [w], rfl, w, [], rfl, rfl, k _ _ H01 x1 (par_end (R1.new hp) (up h1) (up h2) hn hl)⟩
  · cases e
end
section
variable {X : Cx} {a b : Expr} {ta tb : PySem.W.Frag → TE} {f g : DF} {pos : Pos}
theorem ds_par (i j : Nat) {x y : Str} {px py pt : Pos} {kt k2 pt2} (hc : X.calm = true) (hN : X.N.Nodup) (ha : DE X a ta f) (hb : DE X b tb g) (hi : X.N[i]? = some x := by rfl) (hj : X.N[j]? = some y := by rfl) (hij : i ≠ j := by decide)
    (hx : X.env.scope.names.lookup x = some .local := by rfl) (hy : X.env.scope.names.lookup y = some .local := by rfl)
    (h1 : starEach [a, b] X.env = (false, eval a X.env) :: starEach [b] X.env := by rfl) (h2 : starEach [b] X.env = (false, eval b X.env) :: starEach [] X.env := by rfl)
    (hw : swappedStores [.Tuple [.Name x px, .Name y py] kt pt] (.Tuple [a, b] k2 pt2) X.env = pure (some [x, y]) := by rfl)
    (hs : swapsWithSole [.Tuple [.Name x px, .Name y py] kt pt] (.Tuple [a, b] k2 pt2) pos.line X.env = pure false := by rfl) :
    DSt X (.Assign [.Tuple [.Name x px, .Name y py] kt pt] (.Tuple [a, b] k2 pt2) pos) (fun K => tPar i j (tCons (ta K) (tCons (tb K) tNil))) (dPar i j f g) :=
  ⟨ps_par hc hN hi hj hij hx hy (pa_cons ha.pe (pa_cons hb.pe pa_nil h2) h1) hw hs, den_par ha.den hb.den⟩
theorem ds_parT (i j : Nat) {x y : Str} {px py pt : Pos} {kt k2 pt2} (hc : X.calm = true) (hN : X.N.Nodup) (ha : DE X a ta f) (hb : DE X b tb g) (hi : X.N[i]? = some x := by rfl) (hj : X.N[j]? = some y := by rfl)
    (hx : Loc X.env.scope x := by first | exact .inl rfl | exact .inr rfl) (hy : Loc X.env.scope y := by first | exact .inl rfl | exact .inr rfl)
    (fx : X.fn x = true ∨ X.env.scope.names.lookup x = some .local := by first | exact .inl rfl | exact .inr rfl) (fy : X.fn y = true ∨ X.env.scope.names.lookup y = some .local := by first | exact .inl rfl | exact .inr rfl)
    (h1 : starEach [a, b] X.env = (false, eval a X.env) :: starEach [b] X.env := by rfl) (h2 : starEach [b] X.env = (false, eval b X.env) :: starEach [] X.env := by rfl)
    (a1 : (assignEach [.Name x px, .Name y py] X.env).map (·.2) = assign (.Name x px) X.env :: (assignEach [.Name y py] X.env).map (·.2) := by rfl) (a2 : (assignEach [.Name y py] X.env).map (·.2) = assign (.Name y py) X.env :: (assignEach [] X.env).map (·.2) := by rfl)
    (hn : (assignEach [.Name x px, .Name y py] X.env).length = 2 := by rfl) (hst : (assignEach [.Name x px, .Name y py] X.env).findIdx? (·.1) = none := by rfl)
    (hs : swapsWithSole [.Tuple [.Name x px, .Name y py] kt pt] (.Tuple [a, b] k2 pt2) pos.line X.env = pure false := by rfl) (hw : swappedStores [.Tuple [.Name x px, .Name y py] kt pt] (.Tuple [a, b] k2 pt2) X.env = pure none := by rfl)
    (h3 : (assignEach [.Tuple [.Name x px, .Name y py] kt pt] X.env).map (·.2) = [assign (.Tuple [.Name x px, .Name y py] kt pt) X.env] := by rfl) :
    DSt X (.Assign [.Tuple [.Name x px, .Name y py] kt pt] (.Tuple [a, b] k2 pt2) pos) (fun K => tAsg (tTup (tCons (ta K) (tCons (tb K) tNil))) (gTup K 2 (gCons (gName i) (gCons (gName j) gNil)))) (dPar i j f g) :=
  ⟨ps_asg (pe_tup (pa_cons ha.pe (pa_cons hb.pe pa_nil h2) h1)) (pg_tup hc (pgs_cons (pg_name hN hi hx fx) (pgs_cons (pg_name hN hj hy fy) pgs_nil a2) a1) hn hst) hs hw h3, den_parT ha.den hb.den⟩
end
/-! ### a def from its body -/
theorem has_def {P : Program} {w : World} {K : PySem.W.Frag} {mg : Str → Option Value} {base : Heap} {k m : Nat} {x : Str} {qual : Str} {stm : Stmt} {fa : Addr} {fd : FuncData} {N ps : List Str} {g : DS} (F : Fun K x qual stm fa fd) (hm : mg x = some (.ref fa)) (hb : Binds K fd ps []) (S : FnScope N ps (defScope stm)) (hN : N.length = ps.length + m)
    (body : ∀ (cdv : Value) (A : Around) (outer : List Env) (s : Shared) (H : Hp) (E : XK), A.guards = some [] → Room k (A.deeper (envOfC qual (defScope stm) s.heap.objs.size fa cdv)) → ∃ ts, DSs (cxOf CX0 P w K mg base N qual (defScope stm) fa cdv A outer s H E).nox (defBody stm) ts g) :
    Has P w K mg base (k + 1) x ps (defOf m g) := by
  refine ⟨fa, fd, hm, F.kp, hb, XG.fun_g F S (fun vs H Q E h => ?_) fun cdv A outer s H vs Q E hg hr h => ?_⟩
  · obtain ⟨B, Fr, H0, as, b, r, b', R, hn, _⟩ := h
    exact hn
  · obtain ⟨ts, D⟩ := body cdv A outer s H E hg hr
    refine ⟨ts K, D.ps, ?_⟩
    have hn : vs.length = ps.length := by
      obtain ⟨B, Fr, H0, as, b, r, b', R, hn, _⟩ := h
      exact hn
    have e : L2.start N vs = vs.map some ++ List.replicate m none := by
      unfold L2.start
      rw [hN, hn, Nat.add_sub_cancel_left]
    rw [e]
    exact den_def (E := E) D.den h
end XN

set_option maxRecDepth 100000
set_option maxHeartbeats 4000000
namespace XN
open PySem PySem.Spec PyProof.Rows L2 Evl
/-- the built-in names that no one has stored -/
structure Bl (mg : Str → Option Value) : Prop where
  len : mg "len" = none
  range : mg "range" = none
  sorted : mg "sorted" = none
  set : mg "set" = none
  isinstance : mg "isinstance" = none
  abs : mg "abs" = none
  max : mg "max" = none
  min : mg "min" = none
  repr : mg "repr" = none
  any : mg "any" = none
  all : mg "all" = none
  int_ : mg "int" = none
  str_ : mg "str" = none
  list_ : mg "list" = none
  tuple_ : mg "tuple" = none
  bool_ : mg "bool" = none
end XN

set_option maxRecDepth 100000
set_option maxHeartbeats 4000000
/-! sorted(set(e)) on data -/
namespace XN
open PySem PySem.Spec PyProof.Rows PySem.W L2 Evl XD

/-! ### two rows in order with the same members -/
theorem sorted_unique {α : Type} {le : α → α → Bool} : ∀ {xs ys : List α}, (∀ a ∈ xs, ∀ b ∈ xs, le a b = true → le b a = true → a = b) → xs.Perm ys → xs.Pairwise (fun a b => le a b = true) → ys.Pairwise (fun a b => le a b = true) → xs = ys
  | [], ys, _, p, _, _ => (List.Perm.nil_eq p)
  | x :: xs, [], _, p, _, _ => absurd p (by simp)
  | x :: xs, y :: ys, an, p, hx, hy => by
    have e : x = y := by
      have m1 : x ∈ y :: ys := p.mem_iff.mp (List.mem_cons_self ..)
      have m2 : y ∈ x :: xs := p.mem_iff.mpr (List.mem_cons_self ..)
      rcases List.mem_cons.mp m1 with e | m1
      · exact e
      · rcases List.mem_cons.mp m2 with e | m2'
        · exact e.symm
        · exact an x (List.mem_cons_self ..) y m2 ((List.pairwise_cons.mp hx).1 y m2') ((List.pairwise_cons.mp hy).1 x m1)
    subst e
    rw [sorted_unique (fun a ha b hb => an a (List.mem_cons_of_mem _ ha) b (List.mem_cons_of_mem _ hb)) (List.Perm.cons_inv p) (List.pairwise_cons.mp hx).2 (List.pairwise_cons.mp hy).2]
theorem dle_anti {a b : PyData} (h1 : XC.dle a b = true) (h2 : XC.dle b a = true) : keyToks a = keyToks b := by
  have e1 : lexLt itemOrd (keyToks b) (keyToks a) = false := by
    have : (!lexLt itemOrd (keyToks b) (keyToks a)) = true := h1
    simpa using this
  have e2 : lexLt itemOrd (keyToks a) (keyToks b) = false := by
    have : (!lexLt itemOrd (keyToks a) (keyToks b)) = true := h2
    simpa using this
  exact lex_total _ _ e2 e1
theorem toks_kD {a b : Key} (h : keyToks (kD a) = keyToks (kD b)) : a = b := by
  cases a with
  | inl i =>
    cases b with
    | inl j =>
      simp only [kD, keyToks, List.cons.injEq, Sum.inl.injEq, and_true] at h
      rw [h]
    | inr y => simp [kD, keyToks] at h
  | inr x =>
    cases b with
    | inl j => simp [kD, keyToks] at h
    | inr y =>
      simp only [kD, keyToks, List.cons.injEq, Sum.inr.injEq, and_true] at h
      rw [str_of_cps h]
theorem toks_one (a : Key) : ∃ t, keyToks (kD a) = [t] := by
  cases a with
  | inl i => exact ⟨.inl i, by simp [kD, keyToks]⟩
  | inr x => exact ⟨.inr x.cps.toList, by simp [kD, keyToks]⟩
theorem toks_all : ∀ {xs ys : List Key}, keyToksAll (xs.map kD) = keyToksAll (ys.map kD) → xs = ys
  | [], [], _ => rfl
  | [], y :: ys, h => by simp [keyToksAll] at h
  | x :: xs, [], h => by simp [keyToksAll] at h
  | x :: xs, y :: ys, h => by
    obtain ⟨t, ht⟩ := toks_one x
    obtain ⟨u, hu⟩ := toks_one y
    rw [List.map_cons, List.map_cons, toks_all_cons, toks_all_cons, ht, hu] at h
    simp only [List.cons_append, List.nil_append, List.cons.injEq, true_and] at h
    have e : x = y := toks_kD (by rw [ht, hu, h.1])
    rw [e, toks_all h.2]
theorem toks_tD {xs ys : List Key} (h : keyToks (tD xs) = keyToks (tD ys)) : xs = ys := toks_all (by simpa [tD, keyToks] using h)
theorem kD_inj {a b : Key} (h : kD a = kD b) : a = b := toks_kD (by rw [h])
theorem tD_inj {a b : List Key} (h : tD a = tD b) : a = b := toks_tD (by rw [h])
def undup {α : Type} [DecidableEq α] : List α → List α
  | [] => []
  | x :: xs => if x ∈ undup xs then undup xs else x :: undup xs
theorem mem_undup {α : Type} [DecidableEq α] {a : α} : ∀ {xs : List α}, a ∈ undup xs ↔ a ∈ xs
  | [] => Iff.rfl
  | x :: xs => by
    unfold undup
    split
    · rename_i h
      rw [mem_undup, List.mem_cons]
      exact ⟨.inr, fun m => m.elim (fun e => by rw [e]; exact mem_undup.mp h) id⟩
    · rw [List.mem_cons, List.mem_cons, mem_undup]
theorem nodup_undup {α : Type} [DecidableEq α] : ∀ (xs : List α), (undup xs).Nodup
  | [] => List.nodup_nil
  | x :: xs => by
    unfold undup
    split
    · exact nodup_undup xs
    · rename_i h
      exact List.nodup_cons.mpr ⟨h, nodup_undup xs⟩
theorem uniq_k {out ks : List Key} (nd : out.Nodup) (mem : ∀ k, k ∈ out ↔ k ∈ ks) (so : (out.map kD).Pairwise fun a b => XC.dle a b = true) : out.map kD = XC.srt ((undup ks).map kD) := by
  have pm : out.Perm (undup ks) := (List.perm_ext_iff_of_nodup nd (nodup_undup ks)).mpr fun k => by rw [mem k, mem_undup]
  refine sorted_unique (fun a ha b hb h1 h2 => ?_) ((pm.map kD).trans (XC.srt_perm _).symm) so (XC.srt_sorted _)
  obtain ⟨x, _, rfl⟩ := List.mem_map.mp ha
  obtain ⟨y, _, rfl⟩ := List.mem_map.mp hb
  rw [toks_kD (dle_anti h1 h2)]
theorem uniq_t {out ks : List (List Key)} (nd : out.Nodup) (mem : ∀ k, k ∈ out ↔ k ∈ ks) (so : (out.map tD).Pairwise fun a b => XC.dle a b = true) : out.map tD = XC.srt ((undup ks).map tD) := by
  have pm : out.Perm (undup ks) := (List.perm_ext_iff_of_nodup nd (nodup_undup ks)).mpr fun k => by rw [mem k, mem_undup]
  refine sorted_unique (fun a ha b hb h1 h2 => ?_) ((pm.map tD).trans (XC.srt_perm _).symm) so (XC.srt_sorted _)
  obtain ⟨x, _, rfl⟩ := List.mem_map.mp ha
  obtain ⟨y, _, rfl⟩ := List.mem_map.mp hb
  rw [toks_tD (dle_anti h1 h2)]

/-! ### the keys of data -/
def keyOf : PyData → Option Key
  | .int i => some (.inl i)
  | .str z => some (.inr z)
  | _ => none
def keysOf : List PyData → Option (List Key)
  | [] => some []
  | x :: xs => (keyOf x).bind fun k => (keysOf xs).map fun ks => k :: ks
def tkOf : PyData → Option (List Key)
  | .tuple xs => keysOf xs
  | _ => none
def tksOf : List PyData → Option (List (List Key))
  | [] => some []
  | x :: xs => (tkOf x).bind fun k => (tksOf xs).map fun ks => k :: ks
theorem keyOf_kD {x : PyData} {k : Key} (h : keyOf x = some k) : x = kD k := by
  cases x with
  | int i => cases h; rfl
  | str z => cases h; rfl
  | _ => cases h
theorem keysOf_kD : ∀ {xs : List PyData} {ks : List Key}, keysOf xs = some ks → xs = ks.map kD
  | [], _, h => by
    cases h
    rfl
  | x :: xs, _, h => by
    obtain ⟨k, h1, h⟩ := bind_some h
    obtain ⟨ks, h2, rfl⟩ := map_some h
    rw [keyOf_kD h1, keysOf_kD h2, List.map_cons]
theorem tkOf_tD {x : PyData} {k : List Key} (h : tkOf x = some k) : x = tD k := by
  cases x with
  | tuple xs =>
    have := keysOf_kD (show keysOf xs = some k from h)
    rw [this]
    rfl
  | _ => cases h
theorem tksOf_tD : ∀ {xs : List PyData} {ks : List (List Key)}, tksOf xs = some ks → xs = ks.map tD
  | [], _, h => by
    cases h
    rfl
  | x :: xs, _, h => by
    obtain ⟨k, h1, h⟩ := bind_some h
    obtain ⟨ks, h2, rfl⟩ := map_some h
    rw [tkOf_tD h1, tksOf_tD h2, List.map_cons]
open Classical in
noncomputable def opSS (x : PyData) : Option PV := (match x with
  | .list xs => some xs
  | .tuple xs => some xs
  | _ => none).bind fun xs => if xs.length < 64 ∧ XC.Srtbl xs then (match keysOf xs with
    | some ks => some (.l (XC.srt ((undup ks).map kD)))
    | none => (tksOf xs).map fun (kss : List (List Key)) => PV.l (XC.srt ((undup kss).map tD))) else none
def tSS (K : PySem.W.Frag) (te : TE) : TE := fun σ H Q => te σ H fun x H1 =>
  (∃ (l : Addr) (ks : List Key), x = .ref l ∧ Sq K H1 l (ks.map kV) ∧ ks.length < 64 ∧ XC.Srtbl (ks.map kD) ∧
    ∀ (out : List Key) (p : Addr), out.Nodup → (∀ k, k ∈ out ↔ k ∈ ks) → (out.map kD).Pairwise (fun a b => XC.dle a b = true) → H1 p = none → Q (.ref p) (upd H1 p (.lst (out.map kV)))) ∨
  ∃ (l : Addr) (ps : List (Addr × List Key)), x = .ref l ∧ Sq K H1 l (ps.map fun p => V.ref p.1) ∧ (∀ p ∈ ps, TupK K H1 p) ∧ ps.length < 64 ∧ XC.Srtbl (ps.map fun p => tD p.2) ∧
    ∀ (out : List (Addr × List Key)) (p : Addr), (∀ q ∈ out, q ∈ ps) → (out.map Prod.snd).Nodup → (∀ q ∈ ps, q.2 ∈ out.map Prod.snd) → (out.map fun q => tD q.2).Pairwise (fun a b => XC.dle a b = true) → H1 p = none → Q (.ref p) (upd H1 p (.lst (out.map fun q => V.ref q.1)))
theorem pe_ss {X : Cx} {e : Expr} {te : TE} {p p2 q pos : Pos} (hc : X.calm = true) (hu : X.A.units + 200 < cLine) (g1 : Gl X "sorted") (m1 : X.mg "sorted" = none) (g2 : Gl X "set") (m2 : X.mg "set" = none) (he : PE X e te) (ne : starEach [e] X.env = (false, eval e X.env) :: starEach [] X.env := by rfl) :
    PE X (.Call (.Name "sorted" p) [.Call (.Name "set" p2) [e] [] q] [] pos) (tSS X.K te) := by
  refine ⟨fun pins s σ H Q I h => ?_⟩
  refine Call_ (ld_blt I g1 m1 (show bootBuiltins "sorted" = some (.builtin "sorted") by decide +kernel) ?_)
  refine PyProof.Rows.callWith_builtin1 (PyProof.Rows.args_cons ?_ rfl) rfl rfl
  refine Call_ (ld_blt I g2 m2 PyProof.Rows.boot_set ?_)
  refine PyProof.Rows.callWith_type1 (PyProof.Rows.args_cons (thn (he.run pins s σ H _ I h) fun v s1 ⟨x, H1, I1, r1, q1⟩ => PyProof.Rows.args_nil ?_) ne) ne rfl
  rcases q1 with ⟨l, ks, rfl, hl, few, S, q1⟩ | ⟨l, ps, rfl, hl, ht, few, S, q1⟩
  · cases r1
    refine set_flat hc (by omega) I1 hl few fun h' tk a L es ep t I2 B mem => PyProof.Rows.args_nil ?_
    have sub : ∀ d ∈ L.map (fun p => kD p.2), d ∈ ks.map kD := by
      intro d m
      obtain ⟨p, hp, rfl⟩ := List.mem_map.mp m
      exact List.mem_map.mpr ⟨p.2, (mem p.2).mp (List.mem_map.mpr ⟨p, hp, rfl⟩), rfl⟩
    refine sorted_of_set B (I2.ok.hd hc) kD (fun p m => reads_key (B.its p m).1) (srtbl_sub S sub) (by omega) fun s' p c L' k g o hp at_ pm so => ?_
    have few2 : L'.length < 64 := by
      rw [pm.length_eq]
      exact B.few
    refine new_list I2 k g o hp at_ (vals_keys fun p m => (B.its p (pm.mem_iff.mp m)).1) (by rw [List.length_map, List.length_map, sizeLine_eq]; omega) fun hn => q1 (L'.map Prod.snd) p ((pm.map Prod.snd).nodup_iff.mpr B.nd) (fun k => ?_) ?_ hn
    · rw [(pm.map Prod.snd).mem_iff]
      exact mem k
    · rw [List.map_map]
      exact so
  · cases r1
    refine set_tups hc (by omega) I1 hl ht few fun h' tk a L es ep t I2 B in_ all => PyProof.Rows.args_nil ?_
    have sub : ∀ d ∈ (L.map fun p => (Value.ref p.1, p.2)).map (fun p => tD p.2), d ∈ ps.map fun p => tD p.2 := by
      intro d m
      rw [List.map_map] at m
      obtain ⟨p, hp, rfl⟩ := List.mem_map.mp m
      exact List.mem_map.mpr ⟨p, in_ p hp, rfl⟩
    refine sorted_of_set B (I2.ok.hd hc) tD (fun p m => ?_) (srtbl_sub S sub) (by omega) fun s' p c L' k g o hp at_ pm so => ?_
    · obtain ⟨b, e, x⟩ := B.its p m
      rw [e]
      exact reads_tup x
    · obtain ⟨L2, p2, e2⟩ := lift_perm (f := fun p : Addr × List Key => (Value.ref p.1, p.2)) pm L rfl
      subst e2
      have few2 : L2.length < 64 := by
        rw [p2.length_eq]
        have := B.few
        rwa [List.length_map] at this
      have nd : (L.map Prod.snd).Nodup := by
        have := B.nd
        rw [List.map_map] at this
        exact this
      rw [List.map_map] at at_ so
      refine new_list I2 k g o hp at_ (refs_vals L2) (by rw [List.length_map, sizeLine_eq]; omega) fun hn => q1 L2 p (fun q m => in_ q (p2.mem_iff.mp m)) ((p2.map Prod.snd).nodup_iff.mpr nd) (fun q m => ?_) so hn
      rw [(p2.map Prod.snd).mem_iff]
      exact all q m
noncomputable def dSS (f : DF) : DF := dUn opSS f
section
variable {K : PySem.W.Frag} {H0 H : Hp}
theorem dpa_kV : ∀ {vs : List V} {ks : List Key}, DpAll K H0 vs (ks.map kD) → vs = ks.map kV
  | _, [], h => by
    cases h
    rfl
  | _, k :: ks, h => by
    cases h with
    | cons h t =>
      rw [dpa_kV t]
      cases k with
      | inl i => cases h; rfl
      | inr z => cases h; rfl
theorem kV_dpa : ∀ (ks : List Key), DpAll K H0 (ks.map kV) (ks.map kD)
  | [] => .nil
  | .inl i :: ks => .cons (.int i) (kV_dpa ks)
  | .inr z :: ks => .cons (.str z) (kV_dpa ks)
theorem dpa_tups : ∀ {vs : List V} {kss : List (List Key)}, DpAll K H0 vs (kss.map tD) → ∃ ps : List (Addr × List Key), vs = ps.map (fun p => V.ref p.1) ∧ ps.map Prod.snd = kss ∧ (∀ p ∈ ps, SqT K H0 p.1 (p.2.map kV)) ∧ ∀ p ∈ ps, Dp K H0 (.ref p.1) (tD p.2)
  | _, [], h => by
    cases h
    exact ⟨[], rfl, rfl, fun p m => absurd m (by simp), fun p m => absurd m (by simp)⟩
  | _, k :: kss, h => by
    cases h with
    | cons h t =>
      obtain ⟨ps, e1, e2, e3, e4⟩ := dpa_tups t
      have h0 := h
      cases h with
      | tup hs hd =>
        rename_i a ws
        have ew := dpa_kV hd
        subst ew
        refine ⟨(a, k) :: ps, by rw [e1]; rfl, by rw [List.map_cons, e2], fun p m => ?_, fun p m => ?_⟩
        · rcases List.mem_cons.mp m with rfl | m
          · exact hs
          · exact e3 p m
        · rcases List.mem_cons.mp m with rfl | m
          · exact h0
          · exact e4 p m
theorem dpa_refs : ∀ {ps : List (Addr × List Key)}, (∀ p ∈ ps, Dp K H0 (.ref p.1) (tD p.2)) → DpAll K H0 (ps.map fun p => V.ref p.1) (ps.map fun p => tD p.2)
  | [], _ => .nil
  | p :: ps, h => .cons (h p (List.mem_cons_self ..)) (dpa_refs fun q m => h q (List.mem_cons_of_mem _ m))
theorem den_ss {te : TE} {f : DF} (h : DenE K te f) : DenE K (tSS K te) (dSS f) := by
  intro B Fr H0 s σ H r s' R e Q k
  obtain ⟨⟨r1, s1⟩, e1, e⟩ := bind_some e
  obtain ⟨x, e3, e⟩ := bind_some e
  obtain ⟨z, e5, e6⟩ := map_some e
  obtain ⟨rfl, rfl⟩ := Prod.mk.inj e6
  refine h B Fr H0 s σ H r1 s1 R e1 _ fun v1 H1 H01 x1 R1 q1 => ?_
  obtain ⟨H02, x2, R2, q2⟩ := q1.hold R1
  have D := q2.dq R2 e3
  obtain ⟨xs, e7, e8⟩ := bind_some (show (match x with | .list xs => some xs | .tuple xs => some xs | _ => none).bind _ = _ from e5)
  have seq : ∃ l vs, v1 = .ref l ∧ Sq K H1 l vs ∧ DpAll K H02 vs xs := by
    cases x with
    | list ds =>
      cases e7
      obtain ⟨a, vs, rfl, h1, h2⟩ := D
      exact ⟨a, vs, rfl, .inl h1, h2⟩
    | tuple ds =>
      cases e7
      cases (show Dp K H02 v1 (.tuple xs) from D) with
      | tup h1 h2 => exact ⟨_, _, rfl, .inr (ex_t R2.e0 h1), h2⟩
    | _ => cases e7
  obtain ⟨l, vs, rfl, sq, da⟩ := seq
  split at e8
  · rename_i hb
    have out := fun (w : PV) (hw : w = z) => out_of (z := w) R2 fun v H' H0' x5 R5 q5 => k v H' H0' ((x1.trans x2).trans x5) R5 (by rw [← hw]; exact q5)
    cases hk : keysOf xs with
    | some ks =>
      rw [hk] at e8
      have ez := Option.some.inj e8
      have ex := keysOf_kD hk
      subst ex
      have ev := dpa_kV da
      subst ev
      rw [List.length_map] at hb
      refine .inl ⟨l, ks, rfl, sq, hb.1, hb.2, fun o p nd mem so hp => ?_⟩
      refine out _ ez p _ hp ?_
      rw [← uniq_k nd mem so]
      exact kV_dpa o
    | none =>
      rw [hk] at e8
      obtain ⟨kss, h9, ez⟩ := map_some e8
      have ex := tksOf_tD h9
      subst ex
      obtain ⟨ps, ev, es, ht, hd⟩ := dpa_tups da
      subst ev
      subst es
      rw [List.length_map, List.length_map] at hb
      rw [List.map_map] at hb
      refine .inr ⟨l, ps, rfl, sq, fun p m => ex_t R2.e0 (ht p m), hb.1, hb.2, fun o p sub nd mem so hp => ?_⟩
      refine out _ ez p _ hp ?_
      have so' : ((o.map Prod.snd).map tD).Pairwise fun a b => XC.dle a b = true := by
        rw [List.map_map]
        exact so
      have mem' : ∀ k, k ∈ o.map Prod.snd ↔ k ∈ ps.map Prod.snd := fun k => by
        constructor
        · intro m
          obtain ⟨q, hq, rfl⟩ := List.mem_map.mp m
          exact List.mem_map.mpr ⟨q, sub q hq, rfl⟩
        · intro m
          obtain ⟨q, hq, rfl⟩ := List.mem_map.mp m
          exact mem q hq
      rw [← uniq_t nd mem' so', List.map_map]
      exact dpa_refs fun q m => hd q (sub q m)
  · cases e8
end
theorem de_ss {X : Cx} {e : Expr} {te : PySem.W.Frag → TE} {f : DF} {p p2 q pos : Pos} (hc : X.calm = true) (hu : X.A.units + 200 < cLine) (g1 : Gl X "sorted") (m1 : X.mg "sorted" = none) (g2 : Gl X "set") (m2 : X.mg "set" = none) (he : DE X e te f) (ne : starEach [e] X.env = (false, eval e X.env) :: starEach [] X.env := by rfl) :
    DE X (.Call (.Name "sorted" p) [.Call (.Name "set" p2) [e] [] q] [] pos) (fun K => tSS K (te K)) (dSS f) := ⟨pe_ss hc hu g1 m1 g2 m2 he.pe ne, den_ss he.den⟩
end XN

set_option maxRecDepth 100000
set_option maxHeartbeats 4000000
/-! sorted(e, key=len[, reverse=..]) on data -/
namespace XN
open PySem PySem.Spec PyProof.Rows PySem.W L2 Evl XD

def lenOf : PyData → Option Nat
  | .tuple xs => some xs.length
  | _ => none
def lenK (x : PyData) : PyData := .int (((lenOf x).getD 0 : Nat) : Int)
def opSortLen (rev : Bool) : PyData → Option PV
  | .list xs => if xs.length ≤ 100000 ∧ xs.all (fun x => (lenOf x).isSome) = true then some (.l (xs.mergeSort (dataLe rev lenK))) else none
  | _ => none
def tSL (rev : Bool) (K : PySem.W.Frag) (te : TE) : TE := fun σ H Q => te σ H fun x H1 => ∃ (a : Addr) (vs : List V) (ds : List PyData), x = .ref a ∧ SqL K H1 a vs ∧ DpAll K H1 vs ds ∧ ds.length ≤ 100000 ∧ (∀ d ∈ ds, ∃ xs, d = .tuple xs) ∧
  ∀ (ps : List (V × PyData)) (p : Addr), ps.Perm (vs.zip ds) → ps.map Prod.snd = ds.mergeSort (dataLe rev lenK) → H1 p = none → Q (.ref p) (upd H1 p (.lst (ps.map Prod.fst)))
section
variable {X : Cx}
theorem sort_len {rev : Bool} {kw : List (Str × Value)} {pins : List (Addr × Obj)} {σ : L2.St} {H : Hp} {s : Shared} {Q : VK} {a : Addr} {vs : List V} {ds : List PyData} (hu : X.A.units + 100 < cLine) (ha1 : ∀ l : Addr, argsOk "sorted" ⟨[.ref l], kw⟩) (ha2 : ∀ x : Addr, argsOk "list.sort" ⟨[.ref x], kw⟩)
    (ht : ∀ x : Addr, Builtin.«list.sort» ⟨[.ref x], kw⟩ = ksk_tree x (.builtin "len") rev) (I : Inv X pins σ H s) (hs : SqL X.K H a vs) (hd : DpAll X.K H vs ds) (few : ds.length ≤ 100000) (tup : ∀ d ∈ ds, ∃ xs, d = .tuple xs)
    (q : ∀ (ps : List (V × PyData)) (p : Addr), ps.Perm (vs.zip ds) → ps.map Prod.snd = ds.mergeSort (dataLe rev lenK) → H p = none → Q (.ref p) (upd H p (.lst (ps.map Prod.fst)))) :
    wpAny (model X.prog X.w) X.A (call (.builtin "sorted") [.ref a] kw) (EP X pins σ Q) X.xe s := by
  obtain ⟨its, rv, hl, hz⟩ := I.list hs
  have ev := dpa_len hd
  have zl : (vs.zip ds).length = ds.length := by
    rw [List.length_zip]
    omega
  have zs : (vs.zip ds).map Prod.snd = ds := (XC.zip_fst hd).2
  have mem : ∀ p ∈ vs.zip ds, p.2 ∈ ds := fun p hp => by
    rw [← zs]
    exact List.mem_map.mpr ⟨p, hp, rfl⟩
  refine sorted_key_data (b := rev) (R := fun u (p : V × PyData) => RelV p.1 u) (bs := vs.zip ds) (fun p => lenK p.2) hl.isList (XC.each_pairs hd rv) (AllAlike.of fun _ _ => by simp [lenK, alike]) (.inr fun d hd => ?_) (by rw [zl]; exact sz_of few) (fun p hp => ?_) (ha1 a) ha2 ht (fun v p hR hp h tk kp => ?_) fun out c h' tk kp hn at_ hlen e => ?_
  · obtain ⟨p, _, rfl⟩ := List.mem_map.mp hd
    exact ⟨fun z => by simp [lenK] at z, fun _ z => by simp [lenK] at z⟩
  · have : (lenK p.2).depth = 0 := by simp [lenK, PyData.depth]
    omega
  · have D := XC.dp_zip hd p hp
    obtain ⟨xs, ex⟩ := tup p.2 (mem p hp)
    rw [ex] at D
    have hR : RelV p.1 v := hR
    generalize p.1 = w at D hR
    cases D with
    | tup ht hda =>
      cases hR
      obtain ⟨us, r1, pl, z⟩ := I.tuple ht
      obtain ⟨o, ho, hc, n, hdat⟩ := pl
      have hlen : us.length = xs.length := by rw [← r1.length, dpa_len hda]
      have h63 := line63
      have hl2 := r1.length
      refine len_tuple (s := { s with heap := h, toks := tk }) (items := us.toArray) ⟨o, kp _ _ ho, hc, n, hdat⟩ (by simp only [List.size_toArray]; omega) ⟨h, tk + 1 + 1, rfl, fun _ _ e => e, ?_⟩
      rw [ex]
      have : lenK (.tuple xs) = .int (us.toArray.size : Nat) := by
        rw [List.size_toArray, hlen]
        rfl
      rw [this]
      exact .int _ _
  · have pm : ((vs.zip ds).mergeSort (dataLe rev fun p : V × PyData => lenK p.2)).Perm (vs.zip ds) := List.mergeSort_perm _ _
    have es : ((vs.zip ds).mergeSort (dataLe rev fun p : V × PyData => lenK p.2)).map Prod.snd = ds.mergeSort (dataLe rev lenK) := by
      rw [sort_maps (r := dataLe rev fun p : V × PyData => lenK p.2) (s := dataLe rev lenK) Prod.snd (l := vs.zip ds) (fun _ _ _ _ => rfl), zs]
    refine ⟨.ref (s.heap.objs.size + 1), upd H (s.heap.objs.size + 1) (.lst (((vs.zip ds).mergeSort (dataLe rev fun p : V × PyData => lenK p.2)).map Prod.fst)),
      I.laid (t' := tk) kp (Nat.le_succ _) ⟨?_, _, c, XC.vals_of_each e, at_⟩, rfl, q _ _ pm es (I.hok.fresh (Nat.le_succ _))⟩
    rw [List.length_map, pm.length_eq, zl]
    exact sz_of few
variable {e : Expr} {te : TE} {p p2 q kp kq pos : Pos} {jj}
/-- what is asked of the list -/
def wSL (rev : Bool) (K : PySem.W.Frag) (Q : VK) : List V → Hp → Prop
  | [x], H1 => ∃ (a : Addr) (vs : List V) (ds : List PyData), x = .ref a ∧ SqL K H1 a vs ∧ DpAll K H1 vs ds ∧ ds.length ≤ 100000 ∧ (∀ d ∈ ds, ∃ xs, d = .tuple xs) ∧
      ∀ (ps : List (V × PyData)) (p : Addr), ps.Perm (vs.zip ds) → ps.map Prod.snd = ds.mergeSort (dataLe rev lenK) → H1 p = none → Q (.ref p) (upd H1 p (.lst (ps.map Prod.fst)))
  | _, _ => False
theorem pe_sl1 (hu : X.A.units + 100 < cLine) (g1 : Gl X "sorted") (m1 : X.mg "sorted" = none) (g2 : Gl X "len") (m2 : X.mg "len" = none) (he : PE X e te) (ne : backTo pos (starEach [e] X.env) = (false, eval e X.env) :: backTo pos (starEach [] X.env) := by rfl) (n2 : starEach [e] X.env = (false, eval e X.env) :: starEach [] X.env := by rfl) (n3 : (backTo pos (starEach [e] X.env)).any (·.1) = false := by rfl) :
    PE X (.Call (.Name "sorted" p) [e] [⟨some "key", .Name "len" p2, kp⟩] pos) (tSL false X.K te) := by
  refine ⟨fun pins s σ H Q I h => ?_⟩
  refine wpAny_Call_Name_kw (ld_blt I g1 m1 (show bootBuiltins "sorted" = some (.builtin "sorted") by decide +kernel) ?_)
  refine PyProof.Rows.callWith_kw (thn ((pa_cons he pa_nil n2).run pos pins s σ H (wSL false X.K Q) I h) fun us s1 ⟨vs, H1, I1, r1, q1⟩ => ?_) ne n3 rfl rfl
  match vs, r1, q1 with
  | [x], r1, q1 =>
    obtain ⟨a, ws, ds, rfl, hs, hd, few, tup, q⟩ := q1
    obtain ⟨u, rfl, ru⟩ := vals1 r1
    obtain rfl : u = Value.ref a := ru
    show wpAny _ _ (evalAll [(do let v ← eval (.Name "len" p2) X.env; standAt pos; pure v)]) _ _ _
    refine wpAny_evalAll_cons (wpAny_bind (ld_blt I1 g2 m2 PySem.boot_len (wpAny_bind (wpAny_standAt (wpAny_pure (wpAny_evalAll_nil ?_))))))
    exact sort_len (rev := false) hu (fun _ => ksk_s1 _ _) (fun _ => ksk_l1 _ _) (fun _ => ksk_t4 _ _) I1 hs hd few tup q
theorem pe_sl2 (b : Bool) (hu : X.A.units + 100 < cLine) (g1 : Gl X "sorted") (m1 : X.mg "sorted" = none) (g2 : Gl X "len") (m2 : X.mg "len" = none) (he : PE X e te) (ne : backTo pos (starEach [e] X.env) = (false, eval e X.env) :: backTo pos (starEach [] X.env) := by rfl) (n2 : starEach [e] X.env = (false, eval e X.env) :: starEach [] X.env := by rfl) (n3 : (backTo pos (starEach [e] X.env)).any (·.1) = false := by rfl) :
    PE X (.Call (.Name "sorted" p) [e] [⟨some "key", .Name "len" p2, kp⟩, ⟨some "reverse", .Constant (.bool b) jj q, kq⟩] pos) (tSL b X.K te) := by
  refine ⟨fun pins s σ H Q I h => ?_⟩
  refine wpAny_Call_Name_kw (ld_blt I g1 m1 (show bootBuiltins "sorted" = some (.builtin "sorted") by decide +kernel) ?_)
  refine PyProof.Rows.callWith_kw (thn ((pa_cons he pa_nil n2).run pos pins s σ H (wSL b X.K Q) I h) fun us s1 ⟨vs, H1, I1, r1, q1⟩ => ?_) ne n3 rfl rfl
  match vs, r1, q1 with
  | [x], r1, q1 =>
    obtain ⟨a, ws, ds, rfl, hs, hd, few, tup, q⟩ := q1
    obtain ⟨u, rfl, ru⟩ := vals1 r1
    obtain rfl : u = Value.ref a := ru
    show wpAny _ _ (evalAll [(do let v ← eval (.Name "len" p2) X.env; standAt pos; pure v), (do let v ← eval (.Constant (.bool b) _ _) X.env; standAt pos; pure v)]) _ _ _
    refine wpAny_evalAll_cons (wpAny_bind (ld_blt I1 g2 m2 PySem.boot_len (wpAny_bind (wpAny_standAt (wpAny_pure ?_)))))
    refine wpAny_evalAll_cons (wpAny_bind (Constant_bool (wpAny_bind (wpAny_standAt (wpAny_pure (wpAny_evalAll_nil ?_))))))
    exact sort_len (rev := b) hu (fun _ => ksk_s2 _ _ _) (fun _ => ksk_l2 _ _ _) (fun _ => ksk_t5 _ _ _) I1 hs hd few tup q
end
theorem den_sortLen {K : PySem.W.Frag} {te : TE} {f : DF} (rev : Bool) (h : DenE K te f) : DenE K (tSL rev K te) (dUn (opSortLen rev) f) := by
  intro B Fr H0 s σ H r s' R e Q k
  obtain ⟨⟨r1, s1⟩, e1, e⟩ := bind_some e
  obtain ⟨x, e3, e⟩ := bind_some e
  obtain ⟨z, e5, e6⟩ := map_some e
  obtain ⟨rfl, rfl⟩ := Prod.mk.inj e6
  refine h B Fr H0 s σ H r1 s1 R e1 _ fun v1 H1 H01 x1 R1 q1 => ?_
  obtain ⟨H02, x2, R2, q2⟩ := q1.hold R1
  have D := q2.dq R2 e3
  cases x with
  | list xs =>
    obtain ⟨a, vs, rfl, hs, hd⟩ := D
    have e5 : (if xs.length ≤ 100000 ∧ xs.all (fun x => (lenOf x).isSome) = true then some (PV.l (xs.mergeSort (dataLe rev lenK))) else none) = some z := e5
    split at e5
    · rename_i hb
      obtain rfl := Option.some.inj e5
      refine ⟨a, vs, xs, rfl, hs, dpa_ex R2.e0 _ _ hd, hb.1, fun d m => ?_, fun ps p pm es hp => ?_⟩
      · have := List.all_eq_true.mp hb.2 d m
        cases d with
        | tuple ys => exact ⟨ys, rfl⟩
        | _ => cases this
      · refine out_of (z := .l (xs.mergeSort (dataLe rev lenK))) R2 (fun v H' H0' x5 R5 q5 => k v H' H0' ((x1.trans x2).trans x5) R5 q5) p _ hp ?_
        rw [← es]
        exact XC.dp_of_pairs fun q hq => XC.dp_zip hd q (pm.mem_iff.mp hq)
    · cases e5
  | _ => cases e5
section
variable {X : Cx} {e : Expr} {te : PySem.W.Frag → TE} {f : DF} {p p2 q kp kq pos : Pos} {jj}
theorem de_sl1 (hu : X.A.units + 100 < cLine) (g1 : Gl X "sorted") (m1 : X.mg "sorted" = none) (g2 : Gl X "len") (m2 : X.mg "len" = none) (he : DE X e te f) (ne : backTo pos (starEach [e] X.env) = (false, eval e X.env) :: backTo pos (starEach [] X.env) := by rfl) (n2 : starEach [e] X.env = (false, eval e X.env) :: starEach [] X.env := by rfl) (n3 : (backTo pos (starEach [e] X.env)).any (·.1) = false := by rfl) :
    DE X (.Call (.Name "sorted" p) [e] [⟨some "key", .Name "len" p2, kp⟩] pos) (fun K => tSL false K (te K)) (dUn (opSortLen false) f) := ⟨pe_sl1 hu g1 m1 g2 m2 he.pe ne n2 n3, den_sortLen false he.den⟩
theorem de_sl2 (b : Bool) (hu : X.A.units + 100 < cLine) (g1 : Gl X "sorted") (m1 : X.mg "sorted" = none) (g2 : Gl X "len") (m2 : X.mg "len" = none) (he : DE X e te f) (ne : backTo pos (starEach [e] X.env) = (false, eval e X.env) :: backTo pos (starEach [] X.env) := by rfl) (n2 : starEach [e] X.env = (false, eval e X.env) :: starEach [] X.env := by rfl) (n3 : (backTo pos (starEach [e] X.env)).any (·.1) = false := by rfl) :
    DE X (.Call (.Name "sorted" p) [e] [⟨some "key", .Name "len" p2, kp⟩, ⟨some "reverse", .Constant (.bool b) jj q, kq⟩] pos) (fun K => tSL b K (te K)) (dUn (opSortLen b) f) := ⟨pe_sl2 b hu g1 m1 g2 m2 he.pe ne n2 n3, den_sortLen b he.den⟩
end
end XN

set_option maxRecDepth 100000
set_option maxHeartbeats 4000000
/-! a def called by keywords alone, in the parameters' order -/
namespace XN
open PySem PySem.Spec PyProof.Rows L2 Evl

def HasK (P : Program) (w : World) (K : PySem.W.Frag) (mg : Str → Option Value) (base : Heap) (k : Nat) (x : Str) (ps : List Str) (F : DFun) : Prop :=
  ∃ (fa : Addr) (fd : FuncData), mg x = some (.ref fa) ∧ PySem.W.keepIn K (.ref fa) = true ∧ (∀ (s : Shared) (ws : List Value), ws.length = ps.length → BindsTo s fd ⟨[], ps.zip ws⟩ (ps.zip ws)) ∧ XG.FnG P w K mg base CX0 k fa fd ps (spD K ps.length F)
structure DKs (X : Cx) (kws : List Keyword) (ta : PySem.W.Frag → TA) (f : DA) : Prop where
  pk : PK X kws (ta X.K)
  den : DenA X.K (ta X.K) f
  len : ∀ s p, f s = some p → p.1.length = kws.length
section
variable {X : Cx} {e : Expr} {kws : List Keyword} {te : PySem.W.Frag → TE} {tas : PySem.W.Frag → TA} {f : DF} {fa : DA} {pos kpos : Pos} {nm : Option Str}
theorem dk_nil : DKs X [] (fun _ => tNil) dNil := ⟨pk_nil, den_nil, fun s p h => by
  obtain rfl := Option.some.inj h
  rfl⟩
theorem dk_cons (ha : DE X e te f) (hr : DKs X kws tas fa) : DKs X (⟨nm, e, kpos⟩ :: kws) (fun K => tCons (te K) (tas K)) (dCons f fa) := ⟨pk_cons ha.pe hr.pk, den_cons ha.den hr.den, fun s p h => by
  obtain ⟨q, e1, h⟩ := bind_some h
  obtain ⟨w, e2, rfl⟩ := map_some h
  show (q.1.hold :: w.1).length = _
  rw [List.length_cons, hr.len _ _ e2]
  rfl⟩
theorem de_callK {x : Str} {p : Pos} {k : Nat} {ps : List Str} {F : DFun} (hf : HasK X.prog X.w X.K X.mg X.base k x ps F) (hg : X.A.guards = some []) (hr : Room k X.A) (gl : Gl X x) (ha : DKs X kws tas fa) (hn : kws.length = ps.length := by rfl)
    (hks : (backToKw pos (keywordEach kws X.env)).filterMap (·.1) = ps := by rfl) (hall : (backToKw pos (keywordEach kws X.env)).all (·.1.isSome) = true := by rfl)
    (hpl : ((backTo pos (starEach [] X.env)).any (·.1) || (backToKw pos (keywordEach kws X.env)).any (·.1.isNone)) = false := by rfl) (hdb : (x == ("__debug__" : Str)) = false := by decide) :
    DE X (.Call (.Name x p) [] kws pos) (fun K => tCall (spD K ps.length F) [] E0 (tas K)) (dCall F fa) := by
  obtain ⟨af, fd, hm, hk, hb, FG⟩ := hf
  refine ⟨⟨fun pins s σ H Q I h => ?_⟩, den_call ha.den fun s p h => (ha.len s p h).trans hn⟩
  refine wpAny_Call_Name_kw (ld_glob I gl hm ?_ hdb)
  refine PySem.W.callWith_KW0 (h₀ := X.base) I.ok.mod.kin hk hall (thn (ha.pk.run pos pins s σ H _ I h) fun ws s2 ⟨vs, H2, I2, rz, q2⟩ => ⟨I2.kIn, ?_⟩) hpl
  rw [hks]
  have q2 : spD X.K ps.length F (vs ++ []) H2 Q E0 := q2
  rw [List.append_nil] at q2
  have hl : ws.length = ps.length := rz.length.symm.trans (FG.many _ _ _ _ q2)
  refine wpAny_call (codeAny_mono (FG.go X.A X.stack s2 H2 ⟨[], ps.zip ws⟩ ws vs Q E0 hg hr I2.env0 (hb s2 ws hl) rz q2) fun res s' q => ?_)
  match res, q with
  | .error e, q => exact q.elim
  | .ok (.ret u), q => exact I2.after q
end
end XN

set_option maxRecDepth 100000
set_option maxHeartbeats 4000000
/-! a block that begins with a new box -/
namespace XN
open PySem PySem.Spec PyProof.Rows L2 Evl

def intsOf : List PyData → Option (List Int)
  | [] => some []
  | .int n :: xs => (intsOf xs).map fun ns => n :: ns
  | _ => none
theorem ints_map : ∀ {xs : List PyData} {ns : List Int}, intsOf xs = some ns → xs = ns.map .int
  | [], _, h => by
    cases h
    rfl
  | .int n :: xs, _, h => by
    obtain ⟨ns, h1, rfl⟩ := map_some (show (intsOf xs).map _ = _ from h)
    rw [ints_map h1]
    rfl
  | .none :: _, _, h => nomatch h
  | .bool _ :: _, _, h => nomatch h
  | .str _ :: _, _, h => nomatch h
  | .list _ :: _, _, h => nomatch h
  | .tuple _ :: _, _, h => nomatch h
  | .dict _ :: _, _, h => nomatch h
theorem dpa_intsV {K : PySem.W.Frag} {H : Hp} : ∀ {vs : List V} {ns : List Int}, DpAll K H vs (ns.map PyData.int) → vs = ns.map V.int
  | _, [], h => by
    cases h
    rfl
  | _, n :: ns, h => by
    cases h with
    | cons h t =>
      cases h
      rw [dpa_intsV t]
      rfl
def noBx : Option SV → Option SV
  | some .bx => none
  | o => o
def SS.noBox (s : SS) : SS := ⟨s.e.map noBx, []⟩
def plainOut : OutS → Bool
  | .rt (.d _) => true
  | .rt _ => false
  | _ => true
def dBlk (i : Nat) (f : DF) (g : DS) : DS := fun s => if s.b = [] then (f s).bind fun p => match p.1 with
  | .fresh xs => (intsOf xs).bind fun ns => if ns ≠ [] ∧ i < p.2.e.length then (g ⟨p.2.e.set i (some .bx), ns⟩).bind fun q => if plainOut q.1 = true then some (q.1, q.2.noBox) else none else none
  | _ => none else none
section
variable {K : PySem.W.Frag} {B : Option Addr} {Fr H0 H0' H H' : Hp} {s s' : SS} {σ : L2.St} {te : TE} {ts : TS} {f : DF} {g : DS}
theorem noBx_own {e : List (Option SV)} {i : Nat} {w : SV} (h : (e.map noBx)[i]? = some (some w)) : e[i]? = some (some w) ∧ w ≠ .bx := by
  rw [List.getElem?_map] at h
  obtain ⟨o, h1, h2⟩ := map_some h
  rw [h1]
  cases o with
  | none => cases h2
  | some u =>
    cases u with
    | d x => cases h2; exact ⟨rfl, nofun⟩
    | own xs => cases h2; exact ⟨rfl, nofun⟩
    | bx => cases h2
theorem Rel.unbox {p : Addr} (R : Rel K (some p) Fr H0 s σ H) : Rel K none Fr H0 s.noBox σ H where
  e0 := R.e0
  ef := R.ef
  dj := R.dj
  box := fun _ z => nomatch z
  len := (List.length_map _).trans R.len
  bb := fun _ => rfl
  sl := fun i w hi => by
    obtain ⟨h1, h2⟩ := noBx_own (show (s.e.map noBx)[i]? = _ from hi)
    have := R.sl i w h1
    cases w with
    | d x => exact this
    | own xs =>
      obtain ⟨q, vs, hu, a, b, c, d, e⟩ := this
      exact ⟨q, vs, hu, a, b, nofun, d, e⟩
    | bx => exact absurd rfl h2
  ne := fun i j xs ys q n hi hj => R.ne i j xs ys q n (noBx_own (show (s.e.map noBx)[i]? = _ from hi)).1 (noBx_own (show (s.e.map noBx)[j]? = _ from hj)).1
theorem den_blk {i : Nat} (hf : DenE K te f) (hg : DenS K ts g) : DenS K (tSeq (tAsg te (gName i)) ts) (dBlk i f g) := by
  intro B Fr H0 s σ H o s' R e D k
  unfold dBlk at e
  split at e
  · rename_i hb
    obtain rfl := R.bb hb
    obtain ⟨⟨r, s1⟩, e1, e⟩ := bind_some e
    dsimp only at e
    split at e
    · rename_i xs
      obtain ⟨ns, e2, e⟩ := bind_some e
      split at e
      · rename_i hn
        obtain ⟨⟨o3, s3⟩, e3, e⟩ := bind_some e
        dsimp only at e
        split at e
        · rename_i hp
          obtain ⟨rfl, rfl⟩ := Prod.mk.inj (Option.some.inj e)
          refine hf none Fr H0 s σ H _ s1 R e1 _ fun v H1 H01 x1 R1 q1 => ?_
          obtain ⟨p, vs, rfl, h1, h2, h3, h4, h5, h6⟩ := q1
          have ex := ints_map e2
          subst ex
          have ev := dpa_intsV h5
          subst ev
          have il : i < σ.length := by rw [← R1.len]; exact hn.2
          have R2 : Rel K (some p) Fr H01 ⟨s1.e.set i (some .bx), ns⟩ (σ.set i (some (.ref p))) H1 := by
            have get : ∀ (j : Nat) (w : SV), (s1.e.set i (some .bx))[j]? = some (some w) → (j = i ∧ w = .bx) ∨ (j ≠ i ∧ s1.e[j]? = some (some w)) := by
              intro j w hj
              by_cases z : i = j
              · subst z
                rw [List.getElem?_set_self hn.2] at hj
                cases hj
                exact .inl ⟨rfl, rfl⟩
              · rw [List.getElem?_set_ne z] at hj
                exact .inr ⟨fun e => z e.symm, hj⟩
            refine { e0 := R1.e0, ef := R1.ef, dj := R1.dj, box := fun q hq => ?_, len := ?_, bb := fun z => absurd z hn.1, sl := fun j w hj => ?_, ne := fun j l as bs q n gj gl pj pl => ?_ }
            · cases hq
              exact ⟨h1, h2, h4⟩
            · show (s1.e.set i _).length = _
              rw [List.length_set, List.length_set]
              exact R1.len
            · rcases get j w hj with ⟨z, rfl⟩ | ⟨n, hj⟩
              · rw [z, List.getElem?_set_self il]
                exact ⟨p, rfl, rfl⟩
              · rw [List.getElem?_set_ne (fun e => n e.symm)]
                cases w with
                | d x => exact R1.sl j _ hj
                | own as =>
                  obtain ⟨q, ws, hu, a, b, c, d, e⟩ := R1.sl j _ hj
                  exact ⟨q, ws, hu, a, b, fun z => h6 j as hj (by rw [hu, Option.some.inj z]), d, e⟩
                | bx =>
                  obtain ⟨q, hq, _⟩ := R1.sl j _ hj
                  cases hq
            · rcases get j _ gj with ⟨_, z⟩ | ⟨n1, hj⟩
              · cases z
              · rcases get l _ gl with ⟨_, z⟩ | ⟨n2, hl⟩
                · cases z
                · rw [List.getElem?_set_ne (fun e => n1 e.symm)] at pj
                  rw [List.getElem?_set_ne (fun e => n2 e.symm)] at pl
                  exact R1.ne j l as bs q n hj hl pj pl
          refine hg (some p) Fr H01 _ _ H1 o3 s3 R2 e3 D ?_
          cases o3 with
          | nx => exact fun σ' H' H02 x2 R3 => k σ' H' H02 (x1.trans x2) R3.unbox
          | bk => exact fun σ' H' H02 x2 R3 => k σ' H' H02 (x1.trans x2) R3.unbox
          | ct => exact fun σ' H' H02 x2 R3 => k σ' H' H02 (x1.trans x2) R3.unbox
          | rt r =>
            cases r with
            | d x => exact fun v σ' H' H02 x2 R3 q3 => k v σ' H' H02 (x1.trans x2) R3.unbox q3
            | _ => cases hp
        · cases e
      · cases e
    · cases e
  · cases e
end
section
variable {X : Cx} {e : Expr} {te : PySem.W.Frag → TE} {ts : PySem.W.Frag → TS} {f : DF} {g : DS} {pos : Pos} {rest : List Stmt}
theorem dss_blk (i : Nat) {x : Str} {pos' : Pos} (hN : X.N.Nodup) (he : DE X e te f) (hr : DSs X rest ts g) (hi : X.N[i]? = some x := by rfl) (hx : Loc X.env.scope x := by first | exact .inl rfl | exact .inr rfl) (hs : swapsWith e (some (.Name x pos')) pos.line X.env = pure false := by rfl)
    (hf : X.fn x = true ∨ X.env.scope.names.lookup x = some .local := by first | exact .inl rfl | exact .inr rfl) : DSs X (.Assign [.Name x pos'] e pos :: rest) (fun K => tSeq (tAsg (te K) (gName i)) (ts K)) (dBlk i f g) := ⟨pss_cons (ps_set hN hi hx he.pe hs hf) hr.ps, den_blk he.den hr.den⟩
end
end XN

set_option maxRecDepth 100000
set_option maxHeartbeats 4000000
/-! the readings step by step: from the inside, no step goes below a binder -/
namespace XN
open PySem PySem.Spec PyProof.Rows PySem.W L2 Evl
section
variable {op op' : PyData → PyData → Option PV} {o1 : PyData → Option PV} {oB : List PyData → Option PV} {f g h : DF} {c c' : DT} {fa ga : DA} {fs gs : DS} {s s1 s2 : SS} {i j m : Nat} {x y : PyData} {xs ys : List PyData} {r r1 r2 : RV} {rs : List RV} {z : PV} {b : Bool} {F : DFun} {as : List SV} {w : SV} {bs : List Int} {e : List (Option SV)} {it : DI} {ito : DIo} {gt : DG} {vs : List Nat}
def opK4 (o : Option PV) (s : SS) : Option (RV × SS) := o.map fun z => (z.rv, s)
theorem e_op4 {z : PV} : opK4 (some z) s = some (z.rv, s) := id rfl
def opK3 (op : PyData → PyData → Option PV) (a b : Option PyData) (s : SS) : Option (RV × SS) := a.bind fun x => b.bind fun y => opK4 (op x y) s
theorem e_op3 : opK3 op (some x) (some y) s = opK4 (op x y) s := id rfl
def opK2 (op : PyData → PyData → Option PV) (r : RV) (o : Option (RV × SS)) : Option (RV × SS) := o.bind fun q => opK3 op (r.dat q.2) (q.1.hold.dat q.2) q.2
theorem e_op2 : opK2 op r (some (r2, s2)) = opK3 op (r.dat s2) (r2.hold.dat s2) s2 := id rfl
def opK (op : PyData → PyData → Option PV) (g : DF) (o : Option (RV × SS)) : Option (RV × SS) := o.bind fun p => opK2 op p.1.hold (g p.2)
theorem e_op1 : opK op g (some (r, s1)) = opK2 op r.hold (g s1) := id rfl
theorem e_op : dOp op f g s = opK op g (f s) := id rfl
def unK2 (op : PyData → Option PV) (a : Option PyData) (s : SS) : Option (RV × SS) := a.bind fun x => opK4 (op x) s
theorem e_un2 : unK2 o1 (some x) s = opK4 (o1 x) s := id rfl
def unK (op : PyData → Option PV) (o : Option (RV × SS)) : Option (RV × SS) := o.bind fun p => unK2 op (p.1.hold.dat p.2) p.2
theorem e_un1 : unK o1 (some (r, s1)) = unK2 o1 (r.hold.dat s1) s1 := id rfl
theorem e_un : dUn o1 f s = unK o1 (f s) := id rfl
def seqK (g : DS) (o : Option (OutS × SS)) : Option (OutS × SS) := o.bind fun p => match p.1 with
  | .nx => g p.2
  | o => some (o, p.2)
theorem e_seq_nx : seqK gs (some (.nx, s1)) = gs s1 := id rfl
theorem e_seq_rt : seqK gs (some (.rt r, s1)) = some (.rt r, s1) := id rfl
theorem e_seq_bk : seqK gs (some (.bk, s1)) = some (.bk, s1) := id rfl
theorem e_seq_ct : seqK gs (some (.ct, s1)) = some (.ct, s1) := id rfl
theorem e_seq : dSeq fs gs s = seqK gs (fs s) := id rfl
theorem e_nx : dNx s = some (.nx, s) := id rfl
theorem e_bk : dBk s = some (.bk, s) := id rfl
theorem e_ct : dCt s = some (.ct, s) := id rfl
def putK (o : Option SS) : Option (OutS × SS) := o.map fun s => (.nx, s)
theorem e_put : putK (some s) = some (.nx, s) := id rfl
def setK (i : Nat) (o : Option (RV × SS)) : Option (OutS × SS) := o.bind fun p => if i < p.2.e.length then putK (p.2.put i p.1) else none
theorem e_set1 : setK i (some (r, s1)) = if i < s1.e.length then putK (s1.put i r) else none := id rfl
theorem e_set : dSet i f s = setK i (f s) := id rfl
def dropK (o : Option (RV × SS)) : Option (OutS × SS) := o.map fun p => (.nx, p.2)
theorem e_drop1 : dropK (some (r, s1)) = some (.nx, s1) := id rfl
theorem e_drop : dDrop f s = dropK (f s) := id rfl
def retK (o : Option (RV × SS)) : Option (OutS × SS) := o.map fun p => (.rt p.1, p.2)
theorem e_ret1 : retK (some (r, s1)) = some (.rt r, s1) := id rfl
theorem e_ret : dRet f s = retK (f s) := id rfl
theorem e_retN : dRetN s = some (.rt (.d .none), s) := id rfl
def ifK {α : Type} (f g : SS → Option α) (o : Option (Bool × SS)) : Option α := o.bind fun p => if p.1 = true then f p.2 else g p.2
theorem e_if_t {α : Type} {f g : SS → Option α} : ifK f g (some (true, s1)) = f s1 := id rfl
theorem e_if_f {α : Type} {f g : SS → Option α} : ifK f g (some (false, s1)) = g s1 := id rfl
theorem e_ifS : dIfS c fs gs s = ifK fs gs (c s) := id rfl
theorem e_ifE : dIf c f g s = ifK f g (c s) := id rfl
def testK (o : Option (RV × SS)) : Option (Bool × SS) := o.bind fun p => match p.1 with
  | .d (.bool b) => some (b, p.2)
  | _ => none
theorem e_test1 : testK (some (.d (.bool b), s1)) = some (b, s1) := id rfl
theorem e_test : dTest f s = testK (f s) := id rfl
def notK (o : Option (Bool × SS)) : Option (Bool × SS) := o.map fun p => (!p.1, p.2)
theorem e_not1 : notK (some (b, s1)) = some (!b, s1) := id rfl
theorem e_not : dNot c s = notK (c s) := id rfl
def andK (d : DT) (o : Option (Bool × SS)) : Option (Bool × SS) := o.bind fun p => if p.1 = true then d p.2 else some (false, p.2)
theorem e_and_t : andK c (some (true, s1)) = c s1 := id rfl
theorem e_and_f : andK c (some (false, s1)) = some (false, s1) := id rfl
theorem e_and : dAnd c c' s = andK c' (c s) := id rfl
def orK (d : DT) (o : Option (Bool × SS)) : Option (Bool × SS) := o.bind fun p => if p.1 = true then some (true, p.2) else d p.2
theorem e_or_t : orK c (some (true, s1)) = some (true, s1) := id rfl
theorem e_or_f : orK c (some (false, s1)) = c s1 := id rfl
theorem e_or : dOr c c' s = orK c' (c s) := id rfl
def andVK (g : DF) (o : Option (Bool × SS)) : Option (RV × SS) := o.bind fun p => if p.1 = true then g p.2 else some (.d (.bool false), p.2)
theorem e_andV_t : andVK f (some (true, s1)) = f s1 := id rfl
theorem e_andV_f : andVK f (some (false, s1)) = some (.d (.bool false), s1) := id rfl
theorem e_andV : dAndV f g s = andVK g (testK (f s)) := id rfl
def orVK (g : DF) (o : Option (Bool × SS)) : Option (RV × SS) := o.bind fun p => if p.1 = true then some (.d (.bool true), p.2) else g p.2
theorem e_orV_t : orVK f (some (true, s1)) = some (.d (.bool true), s1) := id rfl
theorem e_orV_f : orVK f (some (false, s1)) = f s1 := id rfl
theorem e_orV : dOrV f g s = orVK g (testK (f s)) := id rfl
def notVK (o : Option (Bool × SS)) : Option (RV × SS) := o.map fun p => (.d (.bool (!p.1)), p.2)
theorem e_notV1 : notVK (some (b, s1)) = some (.d (.bool (!b)), s1) := id rfl
theorem e_notV : dNotV f s = notVK (testK (f s)) := id rfl
theorem e_nil : dNil s = some ([], s) := id rfl
def consK2 (r : RV) (o : Option (List RV × SS)) : Option (List RV × SS) := o.map fun q => (r :: q.1, q.2)
theorem e_cons2 : consK2 r (some (rs, s2)) = some (r :: rs, s2) := id rfl
def consK (g : DA) (o : Option (RV × SS)) : Option (List RV × SS) := o.bind fun p => consK2 p.1.hold (g p.2)
theorem e_cons1 : consK ga (some (r, s1)) = consK2 r.hold (ga s1) := id rfl
theorem e_cons : dCons f ga s = consK ga (f s) := id rfl
def tkK2 (x : PyData) (o : Option (List PyData × SS)) : Option (List PyData × SS) := o.map fun q => (x :: q.1, q.2)
theorem e_tk2 : tkK2 x (some (xs, s2)) = some (x :: xs, s2) := id rfl
def tkK (rs : List RV) (o : Option (PyData × SS)) : Option (List PyData × SS) := o.bind fun p => tkK2 p.1 (takeAll rs p.2)
theorem e_tk1 : tkK rs (some (x, s1)) = tkK2 x (takeAll rs s1) := id rfl
theorem e_tk0 : takeAll [] s = some ([], s) := id rfl
theorem e_tk : takeAll (r :: rs) s = tkK rs (r.take s) := id rfl
def tupK2 (o : Option (List PyData × SS)) : Option (RV × SS) := o.bind fun q => if q.1.length ≤ 100000 then some (.d (.tuple q.1), q.2) else none
theorem e_tup2 : tupK2 (some (xs, s2)) = if xs.length ≤ 100000 then some (.d (.tuple xs), s2) else none := id rfl
def tupK (o : Option (List RV × SS)) : Option (RV × SS) := o.bind fun p => tupK2 (takeAll p.1 p.2)
theorem e_tup1 : tupK (some (rs, s1)) = tupK2 (takeAll rs s1) := id rfl
theorem e_tup : dTup fa s = tupK (fa s) := id rfl
def lstK2 (o : Option (List PyData × SS)) : Option (RV × SS) := o.bind fun q => if q.1.length ≤ 100000 then some (.fresh q.1, q.2) else none
theorem e_lst2 : lstK2 (some (xs, s2)) = if xs.length ≤ 100000 then some (.fresh xs, s2) else none := id rfl
def lstK (o : Option (List RV × SS)) : Option (RV × SS) := o.bind fun p => lstK2 (takeAll p.1 p.2)
theorem e_lst1 : lstK (some (rs, s1)) = lstK2 (takeAll rs s1) := id rfl
theorem e_lst : dLst fa s = lstK (fa s) := id rfl
def daK (a : Option PyData) (b : Option (List PyData)) : Option (List PyData) := a.bind fun x => b.map fun xs => x :: xs
theorem e_da1 : daK (some x) (some xs) = some (x :: xs) := id rfl
theorem e_da0 : datAll s [] = some [] := id rfl
theorem e_da : datAll s (r :: rs) = daK (r.dat s) (datAll s rs) := id rfl
def cbK2 (op : List PyData → Option PV) (a : Option (List PyData)) (s : SS) : Option (RV × SS) := a.bind fun xs => opK4 (op xs) s
theorem e_cb2 : cbK2 oB (some xs) s = opK4 (oB xs) s := id rfl
def cbK (op : List PyData → Option PV) (o : Option (List RV × SS)) : Option (RV × SS) := o.bind fun p => cbK2 op (datAll p.2 p.1) p.2
theorem e_cb1 : cbK oB (some (rs, s1)) = cbK2 oB (datAll s1 rs) s1 := id rfl
theorem e_cb : dCB oB fa s = cbK oB (fa s) := id rfl
def vK (i : Nat) (o : Option (Option SV)) (s : SS) : Option (RV × SS) := match o with
  | some (some (.d x)) => some (.d x, s)
  | some (some (.own _)) => some (.sl i, s)
  | some (some .bx) => some (.bx, s)
  | _ => none
theorem e_v_d : vK i (some (some (.d x))) s = some (.d x, s) := id rfl
theorem e_v_o : vK i (some (some (.own xs))) s = some (.sl i, s) := id rfl
theorem e_v_b : vK i (some (some .bx)) s = some (.bx, s) := id rfl
theorem e_v : dV i s = vK i (s.e[i]?) s := id rfl
theorem e_c : dC x s = some (.d x, s) := id rfl
theorem e_h_d : (RV.d x).hold = .d x := id rfl
theorem e_h_f : (RV.fresh xs).hold = .d (.list xs) := id rfl
theorem e_h_s : (RV.sl i).hold = .sl i := id rfl
theorem e_h_b : RV.bx.hold = .bx := id rfl
def atK (o : Option (Option SV)) : Option (List PyData) := match o with
  | some (some (.own xs)) => some xs
  | _ => none
theorem e_at1 : atK (some (some (.own xs))) = some xs := id rfl
theorem e_at : s.at i = atK (s.e[i]?) := id rfl
def lmK (o : Option (List PyData)) : Option PyData := o.map .list
theorem e_lm : lmK (some xs) = some (.list xs) := id rfl
theorem e_d_d : (RV.d x).dat s = some x := id rfl
theorem e_d_f : (RV.fresh xs).dat s = some (.list xs) := id rfl
theorem e_d_s : (RV.sl i).dat s = lmK (s.at i) := id rfl
theorem e_d_b : RV.bx.dat s = some (.list (s.b.map .int)) := id rfl
def tsK (i : Nat) (s : SS) (o : Option (List PyData)) : Option (PyData × SS) := o.map fun xs => (.list xs, ⟨s.e.set i (some (.d (.list xs))), s.b⟩)
theorem e_ts : tsK i s (some xs) = some (.list xs, ⟨s.e.set i (some (.d (.list xs))), s.b⟩) := id rfl
theorem e_t_d : (RV.d x).take s = some (x, s) := id rfl
theorem e_t_f : (RV.fresh xs).take s = some (.list xs, s) := id rfl
theorem e_t_s : (RV.sl i).take s = tsK i s (s.at i) := id rfl
theorem e_p_d : (PV.d x).rv = .d x := id rfl
theorem e_p_l : (PV.l xs).rv = .fresh xs := id rfl
theorem e_p_t : (PV.t xs).rv = .d (.tuple xs) := id rfl
theorem e_put_d : s.put i (.d x) = some ⟨s.e.set i (some (.d x)), s.b⟩ := id rfl
theorem e_put_f : s.put i (.fresh xs) = some ⟨s.e.set i (some (.own xs)), s.b⟩ := id rfl
theorem e_put_b : s.put i .bx = some ⟨s.e.set i (some .bx), s.b⟩ := id rfl
def bxK (i j : Nat) (o : Option (RV × SS)) : Option (OutS × SS) := o.bind fun p => match p.1, p.2.e[i]? with
  | .d (.int n), some (some .bx) => if j < p.2.b.length then some (.nx, ⟨p.2.e, p.2.b.set j n⟩) else none
  | _, _ => none
theorem e_bx1 {n : Int} (h : s1.e[i]? = some (some .bx)) : bxK i j (some (.d (.int n), s1)) = if j < s1.b.length then some (.nx, ⟨s1.e, s1.b.set j n⟩) else none := by
  show (match (RV.d (.int n)), s1.e[i]? with
    | .d (.int n), some (some .bx) => if j < s1.b.length then some (OutS.nx, (⟨s1.e, s1.b.set j n⟩ : SS)) else none
    | _, _ => none) = _
  rw [h]
theorem e_bx : dBoxSet i j f s = bxK i j (f s) := id rfl
def apK2 (i : Nat) (x : PyData) (s : SS) (o : Option (List PyData)) : Option (OutS × SS) := o.bind fun xs => if xs.length < 100000 then some (.nx, ⟨s.e.set i (some (.own (xs ++ [x]))), s.b⟩) else none
theorem e_ap2 : apK2 i x s (some xs) = if xs.length < 100000 then some (.nx, ⟨s.e.set i (some (.own (xs ++ [x]))), s.b⟩) else none := id rfl
def apK1 (i : Nat) (o : Option (PyData × SS)) : Option (OutS × SS) := o.bind fun q => apK2 i q.1 q.2 (q.2.at i)
theorem e_ap1 : apK1 i (some (x, s2)) = apK2 i x s2 (s2.at i) := id rfl
def apK0 (i : Nat) (o : Option (RV × SS)) : Option (OutS × SS) := o.bind fun p => apK1 i (p.1.hold.take p.2)
theorem e_ap0 : apK0 i (some (r, s1)) = apK1 i (r.hold.take s1) := id rfl
def apK (i : Nat) (f : DF) (s : SS) (o : Option (List PyData)) : Option (OutS × SS) := o.bind fun _ => apK0 i (f s)
theorem e_apS : apK i f s (some xs) = apK0 i (f s) := id rfl
theorem e_ap : dApp i f s = apK i f s (s.at i) := id rfl
def argK2 (w : SV) (o : Option (List SV × SS)) : Option (List SV × SS) := o.map fun q => (w :: q.1, q.2)
theorem e_arg2 : argK2 w (some (as, s2)) = some (w :: as, s2) := id rfl
def argK (rs : List RV) (o : Option (PyData × SS)) : Option (List SV × SS) := o.bind fun p => argK2 (.d p.1) (argAll rs p.2)
theorem e_arg1 : argK rs (some (x, s1)) = argK2 (.d x) (argAll rs s1) := id rfl
theorem e_arg0 : argAll [] s = some ([], s) := id rfl
theorem e_arg_b : argAll (.bx :: rs) s = argK2 .bx (argAll rs s) := id rfl
theorem e_arg_d : argAll (.d x :: rs) s = argK rs ((RV.d x).take s) := id rfl
theorem e_arg_s : argAll (.sl i :: rs) s = argK rs ((RV.sl i).take s) := id rfl
def clK3 (e : List (Option SV)) (o : Option (SV × List Int)) : Option (RV × SS) := o.map fun r => (r.1.rv, ⟨e, r.2⟩)
theorem e_cl3 : clK3 e (some (w, bs)) = some (w.rv, ⟨e, bs⟩) := id rfl
def clK2 (F : DFun) (o : Option (List SV × SS)) : Option (RV × SS) := o.bind fun q => clK3 q.2.e (F q.1 q.2.b)
theorem e_cl2 : clK2 F (some (as, s2)) = clK3 s2.e (F as s2.b) := id rfl
def clK (F : DFun) (o : Option (List RV × SS)) : Option (RV × SS) := o.bind fun p => clK2 F (argAll p.1 p.2)
theorem e_cl1 : clK F (some (rs, s1)) = clK2 F (argAll rs s1) := id rfl
theorem e_cl : dCall F fa s = clK F (fa s) := id rfl
theorem e_rv_d : (SV.d x).rv = .d x := id rfl
theorem e_rv_o : (SV.own xs).rv = .fresh xs := id rfl
theorem e_rv_b : SV.bx.rv = .bx := id rfl
def dfK2 (bs : List Int) (o : Option SV) : Option (SV × List Int) := o.map fun w => (w, bs)
theorem e_df2 : dfK2 bs (some w) = some (w, bs) := id rfl
def dfK (o : Option (OutS × SS)) : Option (SV × List Int) := o.bind fun p => match p.1 with
  | .nx => some (.d .none, p.2.b)
  | .rt r => dfK2 p.2.b (r.ret p.2)
  | _ => none
theorem e_df_r : dfK (some (.rt r, s1)) = dfK2 s1.b (r.ret s1) := id rfl
theorem e_df_n : dfK (some (.nx, s1)) = some (.d .none, s1.b) := id rfl
theorem e_df : defOf m fs as bs = dfK (fs ⟨as.map some ++ List.replicate m none, bs⟩) := id rfl
def omK (o : Option (List PyData)) : Option SV := o.map .own
theorem e_om : omK (some xs) = some (.own xs) := id rfl
theorem e_r_d : (RV.d x).ret s = some (.d x) := id rfl
theorem e_r_f : (RV.fresh xs).ret s = some (.own xs) := id rfl
theorem e_r_s : (RV.sl i).ret s = omK (s.at i) := id rfl
theorem e_r_b : RV.bx.ret s = some .bx := id rfl
def ffK (g : DG) (body : DS) (xs : List PyData) (o : Option (OutS × SS)) : Option (OutS × SS) := o.bind fun p => match p.1 with
  | .nx => forFold g body xs p.2
  | .ct => forFold g body xs p.2
  | .bk => some (.nx, p.2)
  | .rt r => some (.rt r, p.2)
theorem e_ff_n : ffK gt fs xs (some (.nx, s1)) = forFold gt fs xs s1 := id rfl
theorem e_ff_c : ffK gt fs xs (some (.ct, s1)) = forFold gt fs xs s1 := id rfl
theorem e_ff_b : ffK gt fs xs (some (.bk, s1)) = some (.nx, s1) := id rfl
theorem e_ff_r : ffK gt fs xs (some (.rt r, s1)) = some (.rt r, s1) := id rfl
def fgK (g : DG) (body : DS) (xs : List PyData) (o : Option SS) : Option (OutS × SS) := o.bind fun s1 => ffK g body xs (body s1)
theorem e_fg : fgK gt fs xs (some s1) = ffK gt fs xs (fs s1) := id rfl
theorem for_nil : forFold gt fs [] s = some (.nx, s) := rfl
theorem for_cons : forFold gt fs (x :: xs) s = fgK gt fs xs (gt x s) := rfl
def frK (g : DG) (body : DS) (o : Option (List PyData × SS)) : Option (OutS × SS) := o.bind fun p => forFold g body p.1 p.2
theorem e_fr1 : frK gt fs (some (xs, s1)) = forFold gt fs xs s1 := id rfl
theorem e_fr : dFor it gt fs s = frK gt fs (it s) := id rfl
theorem e_nm : dName i x s = if i < s.e.length then some ⟨s.e.set i (some (.d x)), s.b⟩ else none := id rfl
def imK (s : SS) (o : Option (List PyData)) : Option (List PyData × SS) := o.map fun xs => (xs, s)
theorem e_im : imK s (some xs) = some (xs, s) := id rfl
def itK2 (o : Option (PyData × SS)) : Option (List PyData × SS) := o.bind fun q => imK q.2 (items q.1)
theorem e_it2 : itK2 (some (x, s1)) = imK s1 (items x) := id rfl
def itK (o : Option (RV × SS)) : Option (List PyData × SS) := o.bind fun p => itK2 (p.1.hold.take p.2)
theorem e_it1 : itK (some (r, s1)) = itK2 (r.hold.take s1) := id rfl
theorem e_it : dItems f s = itK (f s) := id rfl
theorem e_i_l : items (.list xs) = some xs := id rfl
theorem e_i_t : items (.tuple xs) = some xs := id rfl
noncomputable def lcK3 (old : List (Option SV)) (vs : List Nat) (o : Option (List PyData × SS)) : Option (RV × SS) := o.bind fun r => if r.1.length < 100000 then some (.fresh r.1, ⟨restE old r.2.e vs, r.2.b⟩) else none
theorem e_lc3 : lcK3 e vs (some (xs, s1)) = if xs.length < 100000 then some (.fresh xs, ⟨restE e s1.e vs, s1.b⟩) else none := id rfl
noncomputable def lcK (vs : List Nat) (g : DG) (t : DT) (f : DF) (o : Option ((List PyData × Option Nat) × SS)) : Option (RV × SS) := o.bind fun p => lcK3 p.2.e vs (lcFold vs p.1.2 p.1.1 g t f p.1.1 (p.2.wipe vs))
theorem e_lc1 {on : Option Nat} : lcK vs gt c f (some ((xs, on), s1)) = lcK3 s1.e vs (lcFold vs on xs gt c f xs (s1.wipe vs)) := id rfl
theorem e_lc : dLc vs ito gt c f s = lcK vs gt c f (ito s) := id rfl
def ioK (o : Option (List PyData × SS)) : Option ((List PyData × Option Nat) × SS) := o.map fun p => ((p.1, none), p.2)
theorem e_io1 : ioK (some (xs, s1)) = some ((xs, none), s1) := id rfl
theorem e_io : dIo it s = ioK (it s) := id rfl
def ivK2 (s : SS) (o : Option (List PyData)) : Option ((List PyData × Option Nat) × SS) := o.map fun xs => ((xs, none), s)
theorem e_iv2 : ivK2 s (some xs) = some ((xs, none), s) := id rfl
def ivK (vs : List Nat) (i : Nat) (s : SS) (o : Option (Option SV)) : Option ((List PyData × Option Nat) × SS) := match o with
  | some (some (.d x)) => ivK2 s (items x)
  | some (some (.own xs)) => if i ∈ vs then none else some ((xs, some i), s)
  | _ => none
theorem e_iv_d : ivK vs i s (some (some (.d x))) = ivK2 s (items x) := id rfl
theorem e_iv_o : ivK vs i s (some (some (.own xs))) = if i ∈ vs then none else some ((xs, some i), s) := id rfl
theorem e_iv : dItV vs i s = ivK vs i s (s.e[i]?) := id rfl
def ch6 (op : PyData → PyData → Option PV) (s : SS) (a b : Option PyData) : Option (RV × SS) := a.bind fun y => b.bind fun z => (op y z).map fun r => (r.rv, s)
theorem e_ch6 : ch6 op s (some x) (some y) = opK4 (op x y) s := id rfl
def ch5 (op : PyData → PyData → Option PV) (r : RV) (o : Option (RV × SS)) : Option (RV × SS) := o.bind fun w => ch6 op w.2 (r.dat w.2) (w.1.hold.dat w.2)
theorem e_ch5 : ch5 op r (some (r2, s2)) = ch6 op s2 (r.dat s2) (r2.hold.dat s2) := id rfl
def ch4 (op : PyData → PyData → Option PV) (h : DF) (r : RV) (s : SS) (o : Option PV) : Option (RV × SS) := o.bind fun z => match z with
  | .d (.bool true) => ch5 op r (h s)
  | .d (.bool false) => some (.d (.bool false), s)
  | _ => none
theorem e_ch4t : ch4 op h r s (some (.d (.bool true))) = ch5 op r (h s) := id rfl
theorem e_ch4f : ch4 op h r s (some (.d (.bool false))) = some (.d (.bool false), s) := id rfl
def ch3 (op op' : PyData → PyData → Option PV) (h : DF) (r : RV) (s : SS) (a b : Option PyData) : Option (RV × SS) := a.bind fun x => b.bind fun y => ch4 op' h r s (op x y)
theorem e_ch3 : ch3 op op' h r s (some x) (some y) = ch4 op' h r s (op x y) := id rfl
def ch2 (op op' : PyData → PyData → Option PV) (h : DF) (r1 : RV) (o : Option (RV × SS)) : Option (RV × SS) := o.bind fun q => ch3 op op' h q.1.hold q.2 (r1.dat q.2) (q.1.hold.dat q.2)
theorem e_ch2 : ch2 op op' h r1 (some (r2, s2)) = ch3 op op' h r2.hold s2 (r1.dat s2) (r2.hold.dat s2) := id rfl
def ch1 (op op' : PyData → PyData → Option PV) (g h : DF) (o : Option (RV × SS)) : Option (RV × SS) := o.bind fun p => ch2 op op' h p.1.hold (g p.2)
theorem e_ch1 : ch1 op op' g h (some (r1, s1)) = ch2 op op' h r1.hold (g s1) := id rfl
theorem e_ch : dChain op op' f g h s = ch1 op op' g h (f s) := id rfl
theorem e_so_d : (RV.d x).solid = some (.d x) := id rfl
theorem e_so_f : (RV.fresh xs).solid = some (.own xs) := id rfl
def pr3 (i j : Nat) (u : SV) (a : Option SV) (s : SS) : Option (OutS × SS) := a.bind fun w => if i ≠ j ∧ i < s.e.length ∧ j < s.e.length then some (.nx, ⟨(s.e.set i (some u)).set j (some w), s.b⟩) else none
theorem e_pr3 {u : SV} : pr3 i j u (some w) s = if i ≠ j ∧ i < s.e.length ∧ j < s.e.length then some (.nx, ⟨(s.e.set i (some u)).set j (some w), s.b⟩) else none := id rfl
def pr2 (i j : Nat) (a : Option SV) (o : Option (RV × SS)) : Option (OutS × SS) := o.bind fun q => a.bind fun u => pr3 i j u q.1.solid q.2
theorem e_pr2 : pr2 i j (some w) (some (r2, s2)) = pr3 i j w r2.solid s2 := id rfl
def pr1 (i j : Nat) (g : DF) (o : Option (RV × SS)) : Option (OutS × SS) := o.bind fun p => pr2 i j p.1.solid (g p.2)
theorem e_pr1 : pr1 i j g (some (r1, s1)) = pr2 i j r1.solid (g s1) := id rfl
theorem e_pr : dPar i j f g s = pr1 i j g (f s) := id rfl
def sl4 (a b : Option Int) (x : Option PyData) (s : SS) : Option (RV × SS) := x.bind fun x => (opSl x a b).map fun z => (z.rv, s)
theorem e_sl4 {a1 a2 : Option Int} : sl4 a1 a2 (some x) s = opK4 (opSl x a1 a2) s := id rfl
def sl3 (r : RV) (a : Option Int) (o : Option (Option Int × SS)) : Option (RV × SS) := o.bind fun w => sl4 a w.1 (r.dat w.2) w.2
theorem e_sl3 {a1 a2 : Option Int} : sl3 r a1 (some (a2, s1)) = sl4 a1 a2 (r.dat s1) s1 := id rfl
def sl2 (r : RV) (hi : SS → Option (Option Int × SS)) (o : Option (Option Int × SS)) : Option (RV × SS) := o.bind fun q => sl3 r q.1 (hi q.2)
theorem e_sl2 {a1 : Option Int} {hi : SS → Option (Option Int × SS)} : sl2 r hi (some (a1, s1)) = sl3 r a1 (hi s1) := id rfl
def sl1 (lo hi : SS → Option (Option Int × SS)) (o : Option (RV × SS)) : Option (RV × SS) := o.bind fun p => sl2 p.1.hold hi (lo p.2)
theorem e_sl1 {lo hi : SS → Option (Option Int × SS)} : sl1 lo hi (some (r, s1)) = sl2 r.hold hi (lo s1) := id rfl
theorem e_sl {lo hi : SS → Option (Option Int × SS)} : dSl f lo hi s = sl1 lo hi (f s) := id rfl
theorem e_nop : dNoP s = some (none, s) := id rfl
def ptK (o : Option (RV × SS)) : Option (Option Int × SS) := o.bind fun p => match p.1 with
  | .d (.int i) => some (some i, p.2)
  | _ => none
theorem e_pt1 {n : Int} : ptK (some (.d (.int n), s1)) = some (some n, s1) := id rfl
theorem e_pt : dPart f s = ptK (f s) := id rfl
theorem o_sl_l {a1 a2 : Option Int} : opSl (.list xs) a1 a2 = some (.l (cutD xs a1 a2)) := id rfl
theorem o_sl_t {a1 a2 : Option Int} : opSl (.tuple xs) a1 a2 = some (.t (cutD xs a1 a2)) := id rfl
theorem e_yes : dYes s = some (true, s) := id rfl
theorem e_wp : s.wipe vs = ⟨wipeE s.e vs, s.b⟩ := id rfl
theorem e_wp0 : wipeE e [] = e := id rfl
theorem e_wp1 : wipeE e (i :: vs) = (wipeE e vs).set i none := id rfl
theorem e_re0 {e2 : List (Option SV)} : restE e e2 [] = e2 := id rfl
theorem e_re1 {e2 : List (Option SV)} : restE e e2 (i :: vs) = (restE e e2 vs).set i (keepD (e[i]?)) := id rfl
theorem e_kd_d : keepD (some (some (.d x))) = some (.d x) := id rfl
theorem e_kd_o : keepD (some (some (.own xs))) = none := id rfl
theorem e_kd_b : keepD (some (some .bx)) = none := id rfl
theorem e_kd_n : keepD (some none) = none := id rfl
theorem o_add_i {a b : Int} : opAdd (.int a) (.int b) = some (.d (.int (a + b))) := id rfl
theorem o_add_s {a b : Str} : opAdd (.str a) (.str b) = if a.length + b.length ≤ 100000 then some (.d (.str (a ++ b))) else none := id rfl
theorem o_add_l : opAdd (.list xs) (.list ys) = if xs.length + ys.length ≤ 100000 then some (.l (xs ++ ys)) else none := id rfl
theorem o_add_t : opAdd (.tuple xs) (.tuple ys) = if xs.length + ys.length ≤ 100000 then some (.t (xs ++ ys)) else none := id rfl
theorem o_sub {a b : Int} : opSub (.int a) (.int b) = some (.d (.int (a - b))) := id rfl
theorem o_mul {a b : Int} : opMul (.int a) (.int b) = if (-(2 ^ 64) < a ∧ a < 2 ^ 64) ∨ (-(2 ^ 64) < b ∧ b < 2 ^ 64) then some (.d (.int (a * b))) else none := id rfl
theorem o_div {a b : Int} : opDiv (.int a) (.int b) = if 0 < b ∧ b.natAbs < 2 ^ 8000 then some (.d (.int (a / b))) else none := id rfl
theorem o_mod {a b : Int} : opMod (.int a) (.int b) = if 0 < b then some (.d (.int (a % b))) else none := id rfl
theorem o_pow {a b : Int} : opPow (.int a) (.int b) = if 0 ≤ b ∧ b ≤ 1000 ∧ a.natAbs < 2 ^ 64 then some (.d (.int (a ^ b.toNat))) else none := id rfl
theorem o_lt_i {a b : Int} : opLt (.int a) (.int b) = some (.d (.bool (decide (a < b)))) := id rfl
theorem o_lt_s {a b : Str} : opLt (.str a) (.str b) = some (.d (.bool (decide (a.cps.toList < b.cps.toList)))) := id rfl
theorem o_le_i {a b : Int} : opLe (.int a) (.int b) = some (.d (.bool (decide (a ≤ b)))) := id rfl
theorem o_le_s {a b : Str} : opLe (.str a) (.str b) = some (.d (.bool (!decide (b.cps.toList < a.cps.toList)))) := id rfl
theorem o_gt_i {a b : Int} : opGt (.int a) (.int b) = some (.d (.bool (decide (b < a)))) := id rfl
theorem o_ge_i {a b : Int} : opGe (.int a) (.int b) = some (.d (.bool (decide (b ≤ a)))) := id rfl
def ixK (o : Option PyData) : Option PV := o.map .d
theorem o_ix_l {i : Int} : opIx (.list xs) (.int i) = ixK (atI xs i) := id rfl
theorem o_ix_t {i : Int} : opIx (.tuple xs) (.int i) = ixK (atI xs i) := id rfl
theorem o_ixK : ixK (some x) = some (.d x) := id rfl
theorem o_len_l : opLen [.list xs] = some (.d (.int xs.length)) := id rfl
theorem o_len_t : opLen [.tuple xs] = some (.d (.int xs.length)) := id rfl
theorem o_len_s {z : Str} : opLen [.str z] = if z.length ≤ 100000 then some (.d (.int z.length)) else none := id rfl
theorem o_int_i {i : Int} : opInt [.int i] = some (.d (.int i)) := id rfl
theorem o_int_b : opInt [.bool b] = some (.d (.int (if b then 1 else 0))) := id rfl
theorem o_abs {i : Int} : opAbs [.int i] = some (.d (.int (if i < 0 then -i else i))) := id rfl
theorem o_max {i j : Int} : opMax [.int i, .int j] = some (.d (.int (if j > i then j else i))) := id rfl
theorem o_min {i j : Int} : opMin [.int i, .int j] = some (.d (.int (if j < i then j else i))) := id rfl
theorem o_lst_l : opList [.list xs] = some (.l xs) := id rfl
theorem o_lst_t : opList [.tuple xs] = some (.l xs) := id rfl
theorem o_tup_l : opTup [.list xs] = some (.t xs) := id rfl
theorem o_tup_t : opTup [.tuple xs] = some (.d (.tuple xs)) := id rfl
end
end XN

set_option maxRecDepth 100000
set_option maxHeartbeats 4000000
/-! the law's own def, by its address; the end -/
namespace XN
open PySem PySem.Spec PyProof.Rows L2 Evl
theorem fng_def {P : Program} {w : World} {K : PySem.W.Frag} {mg : Str → Option Value} {base : Heap} {k m : Nat} {x : Str} {qual : Str} {stm : Stmt} {fa : Addr} {fd : FuncData} {N ps : List Str} {g : DS} (F : Fun K x qual stm fa fd) (S : FnScope N ps (defScope stm)) (hN : N.length = ps.length + m)
    (body : ∀ (cdv : Value) (A : Around) (outer : List Env) (s : Shared) (H : Hp) (E : XK), A.guards = some [] → Room k (A.deeper (envOfC qual (defScope stm) s.heap.objs.size fa cdv)) → ∃ ts, DSs (cxOf CX0 P w K mg base N qual (defScope stm) fa cdv A outer s H E).nox (defBody stm) ts g) :
    XG.FnG P w K mg base CX0 (k + 1) fa fd ps (spD K ps.length (defOf m g)) := by
  refine XG.fun_g F S (fun vs H Q E h => ?_) fun cdv A outer s H vs Q E hg hr h => ?_
  · obtain ⟨B, Fr, H0, as, b, r, b', R, hn, _⟩ := h
    exact hn
  · obtain ⟨ts, D⟩ := body cdv A outer s H E hg hr
    refine ⟨ts K, D.ps, ?_⟩
    have hn : vs.length = ps.length := by
      obtain ⟨B, Fr, H0, as, b, r, b', R, hn, _⟩ := h
      exact hn
    have e : L2.start N vs = vs.map some ++ List.replicate m none := by
      unfold L2.start
      rw [hN, hn, Nat.add_sub_cancel_left]
    rw [e]
    exact den_def (E := E) D.den h
theorem sq_lst {K : PySem.W.Frag} {H : Hp} {a : Addr} {vs : List V} {ds : List PyData} (h : SqL K H a vs) (d : DpAll K H vs ds) : Dp K H (.ref a) (.list ds) := .lst h d
/-- what is asked of the law at a script -/
theorem ask_of {K : PySem.W.Frag} {F : DFun} {H : Hp} {a : Addr} {ns : List Int} (S : SqL K H a (ns.map V.int)) (e : F [.d (.list (ns.map .int))] [] = some (.d (.bool true), [])) :
    spD K 1 F [.ref a] H (fun v _ => v = .bl true) fun _ _ _ => False := by
  refine ⟨none, fun _ => none, H, [.d (.list (ns.map .int))], [], .d (.bool true), [], ?_, rfl, e, fun v H' H0' _ R => ?_⟩
  · refine { e0 := Ex.refl _, ef := fun _ _ h => (by cases h), dj := fun _ _ h => (by cases h), box := fun _ h => (by cases h), len := rfl, bb := fun _ => rfl, sl := fun i v h => ?_, ne := fun i j xs ys p _ hi _ => ?_ }
    · cases i with
      | zero =>
        cases h
        exact ⟨.ref a, rfl, .lst S (dpa_ints ns)⟩
      | succ i => cases h
    · cases i with
      | zero => cases hi
      | succ i => cases hi
  · obtain ⟨v', hv, hd⟩ := R.sl 0 _ rfl
    cases hv
    cases hd
    rfl
end XN

set_option maxRecDepth 100000
set_option maxHeartbeats 4000000
/-! a list comprehension where an exception is handled -/
namespace UH
open PySem PySem.Spec PyProof.Rows L2

/-- the block's context: the handled exception stands beside -/
abbrev Cx.hb (X : Cx) (p : Addr × Obj) (s : Shared) (H : Hp) (scope : Scope) (cenv : Env) (fp : List Addr) : Cx := (X.blk s H scope cenv fp).tr [p] (fun _ _ => False)
theorem toHb {X : Cx} {p : Addr × Obj} {s s' : Shared} {H H' : Hp} {scope : Scope} {cenv : Env} {fp : List Addr} {τ : L2.St} (I : Inv (X.blk s H scope cenv fp) [] τ H' s')
    (h : s'.heap.get? p.1 = some p.2 ∧ H' p.1 = none ∧ p.1 ≠ cenv.locals ∧ p.1 ∉ frs X.stack ∧ ∀ v, p.2.data ≠ .cell v) : Inv (Cx.hb X p s H scope cenv fp) [] τ H' s' :=
  (Inv.pins_of (pins' := [p]) I fun q hq => by
    have e : q = p := by simpa using hq
    subst e
    exact h).toTry _
section
variable {X : Cx}
theorem pe_lcH {p : Addr × Obj} {elt tg iter : Expr} {ifs : List Expr} {scope : Scope} {own : List (Str × Nat)} {pos : Pos} {wi : TI} {g : TG} {tt : TT} {te : TE} (hot : L2H.Hot1 X.A p) (mem : p ∈ X.pn) (nd : X.N.Nodup) (walk : L2H.PIH X tg iter wi) (blk : BlkOk X.N X.env.scope scope own)
    (dg : ∀ (s : Shared) (H : Hp) (C : Addr) (cl : List (Str × Addr)) (fp : List Addr), PG (Cx.hb X p s H scope (compEnvC scope cl C X.env) fp) tg g)
    (dt : ∀ (s : Shared) (H : Hp) (C : Addr) (cl : List (Str × Addr)) (fp : List Addr), PTs (Cx.hb X p s H scope (compEnvC scope cl C X.env) fp) ifs tt)
    (de : ∀ (s : Shared) (H : Hp) (C : Addr) (cl : List (Str × Addr)) (fp : List Addr), PE (Cx.hb X p s H scope (compEnvC scope cl C X.env) fp) elt te)
    (nf : ∀ x, foldedSetIterable iter X.env x = pure x := by intro _; rfl) :
    PE X (.ListComp elt [⟨tg, iter, ifs, 0⟩] scope pos) (tLc wi g tt te (own.map (·.2))) := by
  refine ⟨fun pins s σ H Q I h => ?_⟩
  rw [eval_ListComp]
  have caps : ∀ y ∈ scope.names, y.2 = .free → ∃ c, X.env.cells.lookup y.1 = some c := fun y hy e => (blk.free y hy e).elim (fun k => I.ok.has _ (.inl k)) fun k => I.ok.has _ (.inr k)
  refine wpAny_comprehension_free (use := none) rfl nf (closure_ok caps) blk.kind (fun y hy e => by rw [blk.uniq y hy, e]) (thn (walk.run pins s σ H _ I h) fun xv s1 hx => thn hx fun itv s2 got => ?_)
  obtain ⟨it, fp, tn, J, H2, rfl, I2, T, st2, f2, q⟩ := got
  refine wpAny_newObj_type (newEnv_comp ?_) (by show 0 ≤ sizeLine; decide)
  generalize eD : s2.heap.objs.size = D
  have free : H2 D = none := I2.hok.fresh (Nat.le_of_eq eD)
  obtain ⟨W, ⟨m0, w0⟩, turn⟩ := q D free
  generalize e3 : ({ s2 with heap := s2.heap.push { cls := .type "list", data := .seq ([] : List Value).toArray } } : Shared) = s3
  have I3 : Inv X pins σ (upd H2 D (.lst [])) s3 := by
    subst e3 eD
    exact I2.laid (t' := s2.toks) (fun b o e => Heap.get?_push_of_some _ e) (Nat.le_refl _) ⟨Nat.zero_le _, [], 0, .nil, Heap.get?_push_size _ rfl⟩
  have hs3 : s3.heap = s2.heap.push { cls := .type "list", data := .seq ([] : List Value).toArray } := by rw [← e3]
  have low : ∀ b ∈ fp, b < s2.heap.objs.size := fun b hb => let ⟨o, e, _⟩ := T.obj _ _ st2 b hb; Heap.lt_size e
  have f3 : ∀ b ∈ fp, FpOk X pins (upd H2 D (.lst [])) b ∧ b < s3.heap.objs.size := fun b hb =>
    ⟨⟨by rw [upd_ne (by rw [← eD]; exact Nat.ne_of_lt (low b hb))]; exact (f2 b hb).1, (f2 b hb).2⟩, by rw [hs3, Heap.size_push]; exact Nat.lt_succ_of_lt (low b hb)⟩
  have st3 : tn 0 s3.heap := T.keep _ _ _ st2 fun b _ o e => by rw [hs3]; exact Heap.get?_push_of_some _ e
  have I4 := block_start I3 blk nd f3
  show codeAny _ _ (.compStart (.ListComp elt [⟨tg, iter, ifs, 0⟩] scope pos) 0 (.ref it) (.ref D) (compEnvC scope (cellsFrom (s3.heap.objs.size + 1) scope.names (cloFrom X.env.cells scope.names [])) s3.heap.objs.size X.env)) (compPost (model X.prog X.w) X.A X.xe none _ (.ref D) s3.heap.objs.size) { s3 with heap := pushCells (s3.heap.push { cls := .type "dict", data := .dict #[] }) scope.names }
  have vg := dg s3 (upd H2 D (.lst [])) s3.heap.objs.size (cellsFrom (s3.heap.objs.size + 1) scope.names (cloFrom X.env.cells scope.names [])) fp
  have vt := dt s3 (upd H2 D (.lst [])) s3.heap.objs.size (cellsFrom (s3.heap.objs.size + 1) scope.names (cloFrom X.env.cells scope.names [])) fp
  have ve := de s3 (upd H2 D (.lst [])) s3.heap.objs.size (cellsFrom (s3.heap.objs.size + 1) scope.names (cloFrom X.env.cells scope.names [])) fp
  have cL0 : (compEnvC scope (cellsFrom (s3.heap.objs.size + 1) scope.names (cloFrom X.env.cells scope.names [])) s3.heap.objs.size X.env).locals = s3.heap.objs.size := rfl
  generalize compEnvC scope (cellsFrom (s3.heap.objs.size + 1) scope.names (cloFrom X.env.cells scope.names [])) s3.heap.objs.size X.env = ce at I4 vg vt ve cL0 ⊢
  have off : ∀ b ∈ fp, (upd H2 D (.lst [])) b = none := fun b hb => (f3 b hb).1.1
  generalize upd H2 D (.lst []) = H3 at I3 I4 vg vt ve w0 off f3
  have P3 := I3.pin p (List.mem_append_left _ mem)
  have grows : ∀ b o, s3.heap.get? b = some o → (pushCells (s3.heap.push { cls := .type "dict", data := .dict #[] }) scope.names).get? b = some o := fun b o e => pushCells_keeps _ _ _ _ (Heap.get?_push_of_some _ e)
  have st4 : tn 0 (pushCells (s3.heap.push { cls := .type "dict", data := .dict #[] }) scope.names) := T.keep _ _ _ st3 fun b _ o e => grows b o e
  have I5 : Inv (Cx.hb X p s3 H3 scope ce fp) [] (wipe σ (own.map (·.2))) H3 { s3 with heap := pushCells (s3.heap.push { cls := .type "dict", data := .dict #[] }) scope.names } :=
    toHb I4 ⟨grows _ _ P3.1, P3.2.1, by rw [cL0]; exact Nat.ne_of_lt (Heap.lt_size P3.1), fun hm => (List.mem_cons.mp (I3.stkSub p.1 hm)).elim P3.2.2.1 P3.2.2.2.1, P3.2.2.2.2⟩
  generalize es4 : ({ s3 with heap := pushCells (s3.heap.push { cls := .type "dict", data := .dict #[] }) scope.names } : Shared) = s4 at I5 ⊢
  have st4 : tn 0 s4.heap := by rw [← es4]; exact st4
  have hotB : L2H.HotC (Cx.hb X p s3 H3 scope ce fp) := ⟨p, hot, List.mem_singleton.mpr rfl⟩
  have apart : ∀ b ∈ fp, p.1 ≠ b := fun b hb => (f3 b hb).1.2.2.2.2.2 p (List.mem_append_left _ mem)
  have stat : ∀ {τ : L2.St} {H' : Hp} {s' : Shared}, Inv (Cx.hb X p s3 H3 scope ce fp) [] τ H' s' → (∀ b ∈ fp, H' b = none) → ∀ b ∈ fp, FpOk (Cx.hb X p s3 H3 scope ce fp) [] H' b := fun {τ H' s'} J hn b hb =>
    ⟨hn b hb, (J.ok.exf b hb).1, J.ok.exfs b hb, .inl hb, fun x c e => (J.ok.exf b hb).2 x c e, fun q hq => by
      have e : q = p := by simpa using hq
      subst e
      exact apart b hb⟩
  have loop : codeAny (model X.prog X.w) X.A (.compLoop (.ListComp elt [⟨tg, iter, ifs, 0⟩] scope pos) 0 (.ref it) (.ref D) ce) (compPost (model X.prog X.w) X.A X.xe none (EP X pins σ Q) (.ref D) s3.heap.objs.size) s4 := by
    refine compLoop_any (fun n s' => ∃ i H', Inv (Cx.hb X p s3 H3 scope ce fp) [] (wipe σ (own.map (·.2))) H' s' ∧ tn i s'.heap ∧ (∀ b ∈ fp, H' b = none) ∧ W i n H') ?_ m0 ⟨0, H3, I5, st4, off, w0⟩
    rintro n s5 ⟨i, H5, J5, st5, n5, w5⟩
    rcases turn i n H5 w5 with ⟨stop, qq⟩ | ⟨go, Nx, hNx, step⟩
    · refine thnF (T.done (Cx.hb X p s3 H3 scope ce fp) rfl rfl rfl hotB i [] s5 _ H5 (fun _ _ => False) J5 (stat J5 n5) st5 stop) fun r s6 ⟨hr, J6⟩ => ?_
      subst hr
      have I7 : Inv X pins σ H5 s6 := I3.call' (ch := fp) J6.os J6.base J6.hok J6.bare fun b hb => ⟨(f3 b hb).1.2.2.2.1, (f3 b hb).1.2.1, (f3 b hb).1.2.2.2.2.1, (f3 b hb).1.2.2.2.2.2⟩
      have nC : H5 s3.heap.objs.size = none := by
        have z : H5 ce.locals = none := J6.free
        rw [cL0] at z
        exact z
      obtain ⟨m, hn, _⟩ := J6.loc
      have hn : s6.heap.Ns ce.locals m := hn
      rw [cL0] at hn
      refine ⟨m, hn, fun h'' sb => ?_⟩
      obtain ⟨f0, f1, f2, f3, f4, f5⟩ := I3.fpOk (Nat.le_refl _) nC
      exact ⟨.ref D, H5, I7.turned (t' := s6.toks) (fun b o hb e => (sb.2 b hb).trans e) f0 f1 f3 f4 f5, rfl, qq⟩
    · refine thnF (T.item (Cx.hb X p s3 H3 scope ce fp) rfl rfl rfl hotB i [] s5 _ H5 (fun _ _ => False) J5 (stat J5 n5) st5 go) fun r s6 ⟨u, hr, h6⟩ => ?_
      subst hr
      refine thnF h6 fun _ s7 ⟨x, H7, J7, r7, y7, st7, n7⟩ => ?_
      have J7' := J7.pinned (stat J7 n7) (T.obj _ _ st7)
      refine thnF (vg.run _ s7 _ H7 x u _ J7' r7 (step x H7 y7)) fun _ s8 ⟨σ8, H8, J8, hw8, q8⟩ => ?_
      refine thnF (vt.run _ s8 σ8 H8 _ J8 q8) fun b s9 ⟨H9, J9, q9⟩ => ?_
      have fin : ∀ {s' : Shared} {H' : Hp}, Inv (Cx.hb X p s3 H3 scope ce fp) ([] ++ pinsAt fp s7.heap) σ8 H' s' → Nx H' → ∃ m, m < n ∧ ∃ i H', Inv (Cx.hb X p s3 H3 scope ce fp) [] (wipe σ (own.map (·.2))) H' s' ∧ tn i s'.heap ∧ (∀ b ∈ fp, H' b = none) ∧ W i m H' := fun {s' H'} J' nx => by
        obtain ⟨m', hm, w'⟩ := hNx H' nx
        have still : ∀ b ∈ fp, ∀ o, s7.heap.get? b = some o → s'.heap.get? b = some o ∧ H' b = none := fun b hb o e =>
          let z := J'.pin (b, o) (List.mem_append_right _ (List.mem_append_right _ (mem_pinsAt hb e)))
          ⟨z.1, z.2.1⟩
        refine ⟨m', hm, i + 1, H', (J'.unpinned (pins := [])).weak (by rw [← hw8, wipe_length]) (fun j v e => ?_), T.keep _ _ _ st7 fun b hb o e => (still b hb o e).1, fun b hb => ?_, w'⟩
        · rw [← hw8] at e
          exact (wipe_some e).1
        · obtain ⟨o, e, _⟩ := T.obj _ _ st7 b hb
          exact (still b hb o e).2
      cases b with
      | false => exact fin J9 q9
      | true =>
        refine thnF (ve.run _ s9 σ8 H9 _ J9 q9) fun z s10 ⟨yv, H10, J10, r10, acc, hD10, hz10, nx⟩ => ?_
        exact app_ok (X := Cx.hb X p s3 H3 scope ce fp) J10 hD10 hz10 r10 fun s11 J11 => fin J11 nx
  exact codeAny_compStart_list loop (T.self X.A 0 _ _ _ st4 loop)
end
end UH

set_option maxRecDepth 100000
set_option maxHeartbeats 4000000
/-! exceptions of own classes made where nothing is handled; a def called with the exception that is handled; isinstance of it -/
namespace UH
open PySem PySem.Spec PyProof.Rows L2

/-- what an exception's class must say -/
structure XcC (K : PySem.W.Frag) (D : Addr) : Prop where
  cl : (PySem.W.clsIn K D).isSome = true
  hg : PySem.W.findIn K (.ref D) "__getattribute__" = some (some (.builtin "BaseException.__getattribute__"))
  hk : PySem.W.findIn K (.ref D) "__getattr__" = some none
  hs : PySem.W.subIn K (.ref D) (.type "BaseException") = some true
  ha : PySem.W.findIn K (.ref D) "__class__" = some (some (.builtin "object.__class__"))
  hm : PySem.W.mroIn K D (.type "object") = some true
structure XcK (K : PySem.W.Frag) : Prop where
  hn : PySem.W.specialIn K (.builtin "object.__class__") "__get__" = some (some (.builtin "getset_descriptor.__get__"))
  ht : PySem.W.takesIn K (.builtin "object.__class__") = some true
/-- the attributes' dict: none, or kept -/
def DictX (d : Option Addr) (H : Hp) : Prop := d = none ∨ ∃ (dd : Addr) (fs : List (Str × V)), d = some dd ∧ H dd = some (.xd fs)
def rIsX (K : PySem.W.Frag) (D a : Addr) (d : Option Addr) : List V → Hp → VK → Prop := fun xs H Q => ∃ (c : V) (cv : Value) (b : Bool), xs = [.ref a, c] ∧ (∀ u, RelV c u → u = cv) ∧ PySem.W.kitOne K (.ref D) cv = some b ∧ DictX d H ∧ Q (.bl b) H
theorem inst_of {X : Cx} {pins : List (Addr × Obj)} {σ : L2.St} {H : Hp} {s : Shared} {a D : Addr} {d : Option Addr} {oe : Obj} (I : Inv X pins σ H s) (mem : (a, oe) ∈ X.pn) (z : Zc (.ref D) d oe) (hf : ∃ vs, oe.data = .fields vs) (hd : DictX d H) :
    ∃ od, PySem.W.InstAt s.heap a oe D od := by
  obtain ⟨ha, _⟩ := I.pin (a, oe) (List.mem_append_left _ mem)
  obtain ⟨vs, hv⟩ := hf
  have nc : PySem.W.notCls oe = true := by
    unfold PySem.W.notCls
    rw [hv] <;> rfl
  rcases hd with rfl | ⟨dd, fs, rfl, hx⟩
  · exact ⟨none, ha, z.1, nc, by rw [z.2]; trivial⟩
  · have ok : ObjOk X.prog X.w H s.heap dd (.xd fs) := I.hok dd _ hx
    obtain ⟨mA, hns, _⟩ := ok
    obtain ⟨od, ho, _⟩ := lookIn_ns hns
    exact ⟨some od, ha, z.1, nc, by rw [z.2]; exact ho⟩
theorem call_isX {X : Cx} {a D : Addr} {d : Option Addr} {oe : Obj} (C : XcC X.K D) (G : XcK X.K) (mem : (a, oe) ∈ X.pn) (z : Zc (.ref D) d oe) (hf : ∃ vs, oe.data = .fields vs) : CallR X (.builtin "isinstance") (rIsX X.K D a d) := by
  intro pins s σ H xs us Q I r h
  obtain ⟨c, cv, b, rfl, hcv, e, hd, q⟩ := h
  cases r with
  | cons rx rr =>
    cases rr with
    | cons rt rr =>
      cases rr
      cases rx
      obtain rfl := hcv _ rt
      obtain ⟨od, J⟩ := inst_of I mem z hf hd
      exact PySem.W.kia_one (PySem.W.kitx_exc C.cl C.hg C.hk C.hs C.ha G.hn G.ht C.hm) I.kIn J e (fun z => nomatch z) fun tk => ⟨.bl b, H, I.kept (t' := tk) fun _ _ z => z, rfl, q⟩

/-! ### made where nothing is handled -/
section
variable {X : Cx} {CX : CXT} {x : Str} {e : Expr} {es : List Expr} {ta : TA} {p pos : Pos} {C fI : Addr} {k : Nat} {fd : FuncData} {ps : List Str} {sp : Sp}
/-- X(), X an own exception class without own __init__ -/
theorem mk_own0 {bmB : List Value} {B newId initId : String} (F : ExcBaseFacts B newId initId bmB) (q : PySem.W.excIn X.K C bmB newId = true) (gC : X.mg x = some (.ref C)) (kC : PySem.W.keepIn X.K (.ref C) = true) (r : Raises X (.ref C)) (gl : Gl X x) (hdb : (x == ("__debug__" : Str)) = false := by decide) :
    L2N.PMk X (.Call (.Name x p) [] [] pos) (fun _ H Q => Q (.ref C) none H) := by
  intro pins s σ H Q I h
  refine wpAny_Call_Name_kw (ld_glob I gl gC ?_ hdb)
  refine PySem.W.callWith_K0 (first := []) I.kIn kC ?_
  obtain ⟨bm, N, nm, qn, bs, hdct, sn, sub, ab, col, dd, k0, k1, k2, k3, k5, mN, hC, hN, hni, T⟩ := exc_obj I.kIn q
  exact wpAny_call_exc_subT F T hC hN hni (fun h' o hm => L2N.mk_of I hm r h (I.hok.gone hm.new)) (Nat.zero_le _)
/-- X(e, ..), X an own exception class with its own __init__ -/
theorem mk_own (T : OexC X.K C) (iC : PySem.W.findIn X.K (.ref C) "__init__" = some (some (.ref fI))) (tI : PySem.W.typeIn X.K (.ref fI) = some (.type "function")) (F1 : FnOk X.prog X.w X.K X.mg X.base CX k fI fd ps sp) (hr : Room (k + 1) X.A) (hb : Binds X.K fd ps [])
    (hx : Passes CX X (fun _ _ _ => False)) (gl : Gl X x) (hm : X.mg x = some (.ref C)) (ha : PA X (e :: es) ta) (hdb : (x == ("__debug__" : Str)) = false := by decide) (hst : starEach (e :: es) X.env = (false, eval e X.env) :: starEach es X.env := by rfl)
    (hpl : (backTo pos (starEach es X.env)).any (·.1) = false := by rfl) : L2N.PMk X (.Call (.Name x p) (e :: es) [] pos) (tMkO C sp [] ta) := by
  intro pins s σ H Q I h
  obtain ⟨nm, q, N, bs, bm, sn, sub, ab, col, dd, k0, k1, k2, k3, k5, hC, hbm⟩ := T.cls
  refine wpAny_Call_Name_kw (ld_glob I gl hm ?_ hdb)
  refine PySem.W.callWith_K (h₀ := X.base) I.ok.mod.kin T.kC (thn (ha.run pos pins s σ H _ I h) fun us s1 ⟨vs, H1, I1, r1, small, want⟩ => ⟨I1.kIn, ?_⟩) hst hpl
  show wpAny _ _ (call (.ref C) us) _ _ _
  obtain ⟨g0, gs, dr, tk, os⟩ := s1
  -- the arguments' tuple at z, the exception at z + 1
  generalize ez : g0.objs.size = z at *
  have lez : g0.objs.size ≤ z + 1 := by omega
  have want := want (z + 1) (I1.hok.fresh lez)
  rw [List.append_nil] at want
  have keep : ∀ b o, g0.get? b = some o → ((g0.push (PySem.W.kdv_tup us)).push (PySem.HandSPX.excO C z)).get? b = some o := fun b o w => Heap.get?_push_of_some _ (Heap.get?_push_of_some _ w)
  have there : ((g0.push (PySem.W.kdv_tup us)).push (PySem.HandSPX.excO C z)).get? (z + 1) = some (PySem.HandSPX.excO C z) := by
    subst ez
    heap_get
  have I2 : Inv X pins σ (upd H1 (z + 1) (exo (z + 1) C none)) ⟨(g0.push (PySem.W.kdv_tup us)).push (PySem.HandSPX.excO C z), gs, dr, tk, os⟩ := I1.laid (t' := tk) keep lez (exo_ok there)
  have r2 : Vals (V.ref (z + 1) :: vs) (Value.ref (z + 1) :: us) := .cons rfl r1
  have many : (Value.ref (z + 1) :: us).length = ps.length := r2.length.symm.trans (F1.len _ _ _ _ want)
  have fit : us.length ≤ sizeLine := by
    rw [← Paired.length r1, sizeLine_eq]
    omega
  have bd := hb _ (Value.ref (z + 1) :: us) I2.kIn (by rw [List.append_nil]; exact many)
  rw [List.append_nil] at bd
  subst ez
  refine wpAny_call (PySem.HandSPX.call_own F.excBase_ValueError (fun Y => PySem.HandSPX.refsVE_contains Y bm hbm) (I1.kIn _ _ hC) (PySem.W.looks_findIn I1.kIn iC) (fun self => PySem.W.bind_fn I1.kIn self tI) fit ?_)
  refine codeAny_mono (F1.run _ X.stack _ _ ⟨Value.ref (g0.objs.size + 1) :: us, []⟩ (Value.ref (g0.objs.size + 1) :: us) _ _ (fun _ _ _ => False) (hr.make C us []) (I2.env0.make C us []) bd r2 want) fun res s' got => ?_
  match res, got with
  | .error er, got => exact hx pins σ _ _ er s' I2 got
  | .ok (.ret u), got =>
    obtain ⟨v, H2, os2, bare2, un2, hok2, rv, rfl, d, fs, ea, ed, hd1, q2⟩ := got
    obtain ⟨h2, g2, d2, t2, os'⟩ := s'
    obtain ⟨t0, G, J, kG, ge, hoe, na⟩ := mk_end0 (d2 := d2) (t2 := t2) I1 lez keep un2 hok2 os2 bare2 ea ed hd1
    exact ⟨rv, g0.objs.size + 1, _, _, ⟨G, g2, d2, t2, os'⟩, _, .ref C, some d, rfl, J, kG, ge, hoe, ⟨rfl, rfl, fun ws w => by cases w; rfl⟩, rfl, rfl, na, rfl, bare2, raises_own T.exC T.tyC, q2⟩
end

/-! ### a def called where p is handled: what it says may speak of p -/
structure FnP (P : Program) (w : World) (K : PySem.W.Frag) (mg : Str → Option Value) (base : Heap) (CX : CXT) (k : Nat) (f : Addr) (fd : FuncData) (ps : List Str) (sp : Addr × Obj → Sp) : Prop where
  many : ∀ p vs H Q E, sp p vs H Q E → vs.length = ps.length
  go : ∀ (A : Around) (outer : List Env) (s : Shared) (H : Hp) (args : Args) (us : List Value) (vs : List V) (Q : VK) (E : XK) (p : Addr × Obj), A.guards = some [] → L2H.RoomH k A → L2H.Hot1 A p → L2H.PinOk outer H s p →
    Env0 P w K mg base A outer s H → BindsTo s fd args (ps.zip us) → Vals vs us → sp p vs H Q E → codeAny (model P w) A (.call (.ref f) args) (CR CX outer P w H s Q E) s
theorem fun_p {P : Program} {w : World} {K : PySem.W.Frag} {mg : Str → Option Value} {base : Heap} {CX : CXT} {k : Nat} {f : Addr} {fd : FuncData} {ps : List Str} {sp : Addr × Obj → Sp} {x qual : Str} {st : Stmt} {N : List Str} (F : Fun K x qual st f fd) (S : FnScope N ps (defScope st))
    (many : ∀ p vs H Q E, sp p vs H Q E → vs.length = ps.length)
    (inner : ∀ (cdv : Value) (A : Around) (outer : List Env) (s : Shared) (H : Hp) (vs : List V) (Q : VK) (E : XK) (p : Addr × Obj), A.guards = some [] → L2H.Hot1 A p → L2H.RoomH k (A.deeper (envOfC qual (defScope st) s.heap.objs.size f cdv)) → sp p vs H Q E →
      ∃ t, PSs (L2H.cxH CX P w K mg base N qual (defScope st) f cdv A outer s H E p) (defBody st) t ∧ t { nx := fun _ H' => Q .non H', rt := Q } (start N vs) H) :
    FnP P w K mg base CX (k + 1) f fd ps sp := by
  obtain ⟨oc, od, kV, doc, pm, an, cdv, ct, osl, rfl, lk, hcd⟩ := F.ex
  refine ⟨many, fun A outer s H args us vs Q E p g hr hot pin e0 hb r want => ?_⟩
  have inK : K.In s.heap := e0.mod.kin.keeps fun b o e => (e0.bs b o e).1
  have free : s.heap.NoLimit := e0.mod.nolimit.keeps fun b o e => (e0.bs b o e).1
  refine codeAny_call_function hr.depth (inK _ _ lk) rfl S.co S.gen rfl (PySem.W.codeRec_of inK hcd) (hb _ _ _ _ ?_)
  refine wpAny_newFunctionEnv_cells S.kind (fun y hy => (S.par y.1 (List.of_mem_zip hy).1).elim .inl fun q => .inr ⟨q, PySem.W.cellsFrom_some _ _ _ (.inl q)⟩) fun env he s1 xx => ?_
  subst he
  refine ⟨free.keeps xx.toInCall.keep, codeAny_func ?_⟩
  obtain ⟨t, ht, hq⟩ := inner cdv A outer s H vs Q E p g hot (hr.deeper _) want
  refine wpAny_mono (ht.run [] s1 (start N vs) H _ (L2H.inv_startH S pin e0 (many _ _ _ _ _ want) r xx) hq) (fun fl s' hs => ?_) fun e s' hs => hs
  match fl, hs with
  | .ret u, ⟨v, σ', H', J, rv, q⟩ => exact ⟨v, H', J.os, J.bare, J.base, J.hok, rv, q⟩
  | .next, ⟨σ', H', J, q⟩ => exact ⟨.non, H', J.os, J.bare, J.base, J.hok, rfl, q⟩
  | .brk, ⟨_, _, _, q⟩ => exact q.elim
  | .cont, ⟨_, _, _, q⟩ => exact q.elim
section
variable {X : Cx} {CX : CXT} {k : Nat} {f : Addr} {fd : FuncData} {ps : List Str} {sp : Addr × Obj → Sp} {E : XK} {x : Str} {q pos : Pos} {e : Expr} {es : List Expr} {t : TA} {p : Addr × Obj}
theorem pe_p (F : FnP X.prog X.w X.K X.mg X.base CX k f fd ps sp) (hg : X.A.guards = some []) (hr : L2H.RoomH k X.A) (hot : L2H.Hot1 X.A p) (mem : p ∈ X.pn) (gl : Gl X x) (hm : X.mg x = some (.ref f)) (hk : PySem.W.keepIn X.K (.ref f) = true) (hb : Binds X.K fd ps []) (hx : Passes CX X E)
    (ha : PA X (e :: es) t) (hdb : (x == ("__debug__" : Str)) = false := by decide) (hst : starEach (e :: es) X.env = (false, eval e X.env) :: starEach es X.env := by rfl) (hpl : (backTo pos (starEach es X.env)).any (·.1) = false := by rfl) :
    PE X (.Call (.Name x q) (e :: es) [] pos) (fun σ H Q => t σ H fun vs H1 => sp p vs H1 Q E) := by
  refine ⟨fun pins s σ H Q I h => wpAny_Call_Name_kw (ld_glob I gl hm ?_ hdb)⟩
  refine PySem.W.callWith_K (h₀ := X.base) I.ok.mod.kin hk (thn (ha.run pos pins s σ H _ I h) fun us s1 got => ?_) hst hpl
  obtain ⟨vs, H1, I1, r, want⟩ := got
  have bd := hb s1 us I1.kIn (by rw [List.append_nil]; exact r.length.symm.trans (F.many _ _ _ _ _ want))
  rw [List.append_nil] at bd
  have P1 := I1.pin p (List.mem_append_left _ mem)
  refine ⟨I1.kIn, wpAny_call (codeAny_mono (F.go X.A X.stack s1 H1 ⟨us, []⟩ us vs Q E p hg hr hot ⟨P1.1, P1.2.1, fun m => (List.mem_cons.mp (I1.stkSub p.1 m)).elim P1.2.2.1 P1.2.2.2.1, P1.2.2.2.2⟩ I1.env0 bd r want) fun res s' got => ?_)⟩
  match res, got with
  | .error e, got => exact hx pins σ H1 s1 e s' I1 got
  | .ok (.ret u), got => exact I1.after got
end
end UH

set_option maxRecDepth 100000
set_option maxHeartbeats 4000000
/-! the errors' classes; each made and raised; which one it is -/
namespace UH
open PySem PySem.Spec PyProof.Rows L2
open XN (rOf2 opAdd opEq opNe dpa_ex dp_ex or_add or_eq or_ne)

def topS (i : Nat) : Stmt := PySem.Challenge.pw_stopsfirst_k00_errors_and_what_they_keep.main.body.getD i (.Pass ⟨0, 0, 0, 0⟩)
def nm : Nat → Str
  | 0 => "InvalidServices"
  | 1 => "InvalidRule"
  | 2 => "InvalidText"
  | 3 => "InvalidState"
  | 4 => "NotAllowed"
  | 5 => "InvalidPlan"
  | 6 => "InvalidBatches"
  | 7 => "InvalidPrices"
  | 8 => "InvalidQuestion"
  | 9 => "InvalidCost"
  | 10 => "Refused"
  | 11 => "NotBendable"
  | _ => "InvalidCommand"

/-! ### what the written part says of a class of errors -/
structure ExcAt (K : PySem.W.Frag) (S C : Addr) : Prop where
  cls : ∃ nm q N bs sn sub ab col dd k0 k1 k2 k3 k5, K.lookup C = some (excClassObj nm q C N bs (.ref S :: PySem.HandSPX.veTail) true sn sub ab col dd k0 k1 k2 k3 k5 "ValueError.__new__")
  sa : PySem.W.findIn K (.ref C) "__setattr__" = some (some (.builtin "object.__setattr__"))
  ga : PySem.W.findIn K (.ref C) "__getattribute__" = some (some (.builtin "BaseException.__getattribute__"))
  gg : PySem.W.findIn K (.ref C) "__getattr__" = some none
  co : PySem.W.findIn K (.ref C) "__class__" = some (some (.builtin "object.__class__"))
  fa : PySem.W.findIn K (.ref C) "at" = some none
  hd : PySem.W.hasDictIn K C = true
  kp : PySem.W.keepIn K (.ref C) = true
section
variable {K : PySem.W.Frag} {S C : Addr}
theorem ExcAt.cd (T : ExcAt K S C) : ∃ cd, PySem.W.clsIn K C = some cd ∧ cd.mro = .ref C :: .ref S :: PySem.HandSPX.veTail := by
  obtain ⟨nm, q, N, bs, sn, sub, ab, col, dd, k0, k1, k2, k3, k5, h⟩ := T.cls
  unfold PySem.W.clsIn
  rw [h]
  exact ⟨_, rfl, rfl⟩
theorem ExcAt.sub (T : ExcAt K S C) (b : Value) : PySem.W.subIn K (.ref C) b = some ((Value.ref C :: .ref S :: PySem.HandSPX.veTail).contains b) := by
  obtain ⟨cd, h, m⟩ := T.cd
  show PySem.W.mroIn K C b = _
  unfold PySem.W.mroIn
  rw [h, Option.bind_some, m]
  rfl
theorem ExcAt.ty (T : ExcAt K S C) : PySem.W.typeIn K (.ref C) = some (.type "type") := by
  obtain ⟨nm, q, N, bs, sn, sub, ab, col, dd, k0, k1, k2, k3, k5, h⟩ := T.cls
  show (List.lookup C K).map (·.cls) = _
  rw [h]
  rfl
theorem ExcAt.sb (T : ExcAt K S C) {X : String} (h : PySem.HandSPX.veTail.contains (.type X) = true) : PySem.W.subIn K (.ref C) (.type X) = some true := by
  rw [T.sub]
  have e : (Value.ref C :: .ref S :: PySem.HandSPX.veTail).contains (.type X) = PySem.HandSPX.veTail.contains (.type X) := by
    rw [List.contains_cons, List.contains_cons]
    rfl
  rw [e, h]
theorem ExcAt.ex (T : ExcAt K S C) : PySem.W.subIn K (.ref C) (.type "BaseException") = some true := T.sb (by decide)
theorem ExcAt.xc (T : ExcAt K S C) : XcC K C where
  cl := by
    obtain ⟨cd, h, _⟩ := T.cd
    rw [h]
    rfl
  hg := T.ga
  hk := T.gg
  hs := T.ex
  ha := T.co
  hm := T.sb (X := "object") (by decide)
theorem ExcAt.oex (T : ExcAt K S C) : OexC K C where
  cls := by
    obtain ⟨nm, q, N, bs, sn, sub, ab, col, dd, k0, k1, k2, k3, k5, h⟩ := T.cls
    exact ⟨nm, q, N, bs, _, sn, sub, ab, col, dd, k0, k1, k2, k3, k5, h, rfl⟩
  sa := T.sa
  exC := T.ex
  tyC := T.ty
  kC := T.kp
theorem ExcAt.kit (T : ExcAt K S C) {D : Addr} (T' : ExcAt K S D) (nS : D ≠ S) : PySem.W.kitOne K (.ref C) (.ref D) = some (decide (D = C)) := by
  unfold PySem.W.kitOne
  by_cases e : D = C
  · subst e
    rw [if_pos (by simp)]
    simp
  · rw [if_neg (by simpa using fun z => e z.symm)]
    obtain ⟨cd, h, m⟩ := T'.cd
    show (if ((PySem.W.clsIn K D).isSome && PySem.W.typeIn K (.ref D) == some (.type "type")) = true then PySem.W.subIn K (.ref C) (.ref D) else none) = _
    rw [h, T'.ty, if_pos (by rfl), T.sub]
    congr 1
    have e1 : (Value.ref D == Value.ref C) = false := by simpa using e
    have e2 : (Value.ref D == Value.ref S) = false := by simpa using nS
    rw [List.contains_cons, List.contains_cons, e1, e2]
    have e3 : PySem.HandSPX.veTail.contains (Value.ref D) = false := by rfl
    rw [e3]
    simp [e]
theorem ExcAt.ve (T : ExcAt K S C) : PySem.W.kitOne K (.ref C) (.type "ValueError") = some true := by
  unfold PySem.W.kitOne
  rw [if_neg (by simp)]
  show (if PySem.W.kitMeta "ValueError" = true then PySem.W.subIn K (.ref C) (.type "ValueError") else none) = _
  rw [if_pos (by decide +kernel), T.sb (by decide)]
end
/-- all thirteen, by number; S the base class -/
structure KN (K : PySem.W.Frag) (mg : Str → Option Value) (S : Addr) (c : Nat → Addr) : Prop where
  mn : ∀ i, i < 13 → mg (nm i) = some (.ref (c i))
  ms : mg "StopError" = some (.ref S)
  cl : ∀ i, i < 13 → ExcAt K S (c i)
  ne : ∀ i, i < 13 → ∀ j, j < 13 → c i = c j → i = j
  nS : ∀ i, i < 13 → c i ≠ S
  sE : PySem.W.subIn K (.ref S) (.type "BaseException") = some true
  sD : PySem.W.hasDictIn K S = true
  sT : PySem.W.typeIn K (.ref S) = some (.type "type")
  xk : XcK K
theorem KN.kit {K : PySem.W.Frag} {mg : Str → Option Value} {S : Addr} {c : Nat → Addr} (N : KN K mg S c) {i j : Nat} (hi : i < 13) (hj : j < 13) : PySem.W.kitOne K (.ref (c i)) (.ref (c j)) = some (decide (j = i)) := by
  rw [(N.cl i hi).kit (N.cl j hj) (N.nS j hj)]
  congr 1
  exact decide_eq_decide.mpr ⟨fun e => N.ne j hj i hi e, fun e => by rw [e]⟩
theorem KN.caught {K : PySem.W.Frag} {mg : Str → Option Value} {S : Addr} {c : Nat → Addr} (N : KN K mg S c) {i : Nat} (hi : i < 13) : PySem.W.exmOne K (.ref (c i)) (.ref S) = some true := by
  refine PySem.W.exm_ref N.sE N.sD N.sT ?_
  rw [(N.cl i hi).sub]
  congr 1
  rw [List.contains_cons, List.contains_cons]
  simp
end UH

set_option maxRecDepth 100000
set_option maxHeartbeats 4000000
/-! the errors are raised -/
namespace UH
open PySem PySem.Spec PyProof.Rows L2

/-- slot i holds an int: is it k? -/
def tEqI (i : Nat) (k : Int) : TT := fun σ H Q => ∃ n : Int, σ[i]? = some (some (.int n)) ∧ Q (n == k) H
theorem pt_eqI {X : Cx} {x : Str} {i j : Nat} {k : Int} {p1 p2 p3 : Pos} (hN : X.N[i]? = some x) (hv : Vis X.env.scope x) (hd : (x == ("__debug__" : Str)) = false := by decide) (hcd : (x == ("__classdict__" : Str)) = false := by decide) :
    PT X (.Compare (.Name x p1) [.Eq] [.Constant (.int k) j p2] p3) (tEqI i k) := by
  refine ⟨fun pins s σ H Q I h => ?_⟩
  obtain ⟨n, e, q⟩ := h
  refine (pt_cmpR op_eq (pe_var hN hv hd hcd) pe_int (nobehind _ (by decide) (by decide))).run pins s σ H Q I ⟨.int n, e, rfl, _, rfl, ?_⟩
  rw [dec_int]
  exact q
def spI (C : Addr) : Sp := fun vs H Q _ => ∃ (a : Addr) (y : V), vs = [.ref a, y] ∧ H a = some (exo a C none) ∧ ∀ dx, H dx = none → dx ≠ a → Q .non (upd (upd H dx (exd dx [("at", y)])) a (exo a C (some dx)))
/-- an exception class of the text with its __init__(self, at) -/
def HasEx (P : Program) (w : World) (K : PySem.W.Frag) (mg : Str → Option Value) (base : Heap) (x : Str) (C : Addr) : Prop :=
  ∃ (fI : Addr) (fd : FuncData) (ps : List Str), mg x = some (.ref C) ∧ OexC K C ∧ PySem.W.findIn K (.ref C) "__init__" = some (some (.ref fI)) ∧ PySem.W.typeIn K (.ref fI) = some (.type "function") ∧ Binds K fd ps [] ∧ FnOk P w K mg base CX0 1 fI fd ps (spI C)
theorem fn_init {P : Program} {w : World} {K : PySem.W.Frag} {mg : Str → Option Value} {base : Heap} {x : Str} {qual : Str} {stm : Stmt} {fa C : Addr} {fd : FuncData} {N ps : List Str} (F : Fun K x qual stm fa fd) (S : FnScope N ps (defScope stm)) (hN : N.length = 2) (hp : ps.length = 2) (T : OexC K C) (hno : PySem.W.findIn K (.ref C) "at" = some none)
    (body : ∀ (cdv : Value) (A : Around) (outer : List Env) (s : Shared) (H : Hp) (E : XK), PSs (cxOf CX0 P w K mg base N qual (defScope stm) fa cdv A outer s H E) (defBody stm) (tOst K "at" (tVar 0) (tVar 1))) :
    FnOk P w K mg base CX0 1 fa fd ps (spI C) := by
  obtain ⟨oc, od, kV, doc, pm, an, cdv, ct, osl, rfl, lk, hcd⟩ := F.ex
  refine fn_of lk hcd S (fun vs H Q E h => ?_) fun A outer s H vs Q E hr h => ?_
  · obtain ⟨a, y, rfl, _⟩ := h
    exact hp.symm
  · obtain ⟨a, y, rfl, ha, q⟩ := h
    refine ⟨_, body cdv A outer s H E, ?_⟩
    have e : L2.start N [.ref a, y] = [some (.ref a), some y] := by
      unfold L2.start
      rw [hN]
      rfl
    rw [e]
    exact ⟨y, rfl, .ref a, rfl, a, C, rfl, T, hno, .inl ⟨ha, q⟩⟩
theorem init_ok {P : Program} {w : World} {K : PySem.W.Frag} {mg : Str → Option Value} {base : Heap} {S fa C : Addr} {fd : FuncData} {x y qual : Str} {stm : Stmt} {p1 p2 p3 p4 : Pos} (T : ExcAt K S C) (hm : mg y = some (.ref C)) (iC : PySem.W.findIn K (.ref C) "__init__" = some (some (.ref fa))) (tI : PySem.W.typeIn K (.ref fa) = some (.type "function"))
    (F : Fun K x qual stm fa fd) (bd : Binds K fd ["self", "at"] []) (Sc : FnScope ["self", "at"] ["self", "at"] (defScope stm)) (v0 : (defScope stm).names.lookup ("self" : Str) = some .local) (v1 : (defScope stm).names.lookup ("at" : Str) = some .local)
    (hb : defBody stm = [.Assign [.Attribute (.Name "self" p1) "at" p2] (.Name "at" p3) p4]) : HasEx P w K mg base y C := by
  refine ⟨fa, fd, _, hm, T.oex, iC, tI, bd, fn_init F Sc rfl rfl T.oex T.fa fun cdv A outer s H E => ?_⟩
  rw [hb]
  exact pss_one (ps_ost (pe_var rfl (.inl v0)) (pe_var rfl (.inl v1)))

/-- raise X(y), y in slot j -/
def tRz (C : Addr) (j : Nat) (W : WX) : TS := fun _ σ H => ∃ v, σ[j]? = some (some v) ∧ ∀ d, H d = none → W (.ref C) (some d) σ (upd H d (.xd [("at", v)]))
theorem ps_rz {X : Cx} {W : WX} {x y : Str} {C : Addr} {j : Nat} {p apos pos q : Pos} (hf : HasEx X.prog X.w X.K X.mg X.base x C) (hc : X.calm = true) (tk : L2N.Takes X W) (hr : Room 2 X.A) (gl : Gl X x) (hN : X.N[j]? = some y) (hv : Vis X.env.scope y) (hdb : (x == ("__debug__" : Str)) = false := by decide)
    (hd : (y == ("__debug__" : Str)) = false := by decide) (hcd : (y == ("__classdict__" : Str)) = false := by decide) :
    PS X (.Raise (some (.Call (.Name x p) [.Name y q] [] apos)) none pos) (tRz C j W) := by
  obtain ⟨fI, fd, ps, hm, T, iC, tI, hb, F1⟩ := hf
  refine ⟨fun pins s σ H D I h => ?_⟩
  obtain ⟨v, e, k⟩ := h
  refine (L2N.ps_raise hc tk (mk_own T iC tI F1 hr hb pass0 gl hm (pa_cons (pe_var hN hv hd hcd) pa_nil) hdb rfl rfl)).run pins s σ H D I ⟨v, e, (by decide : 1 ≤ 1000), fun a na => ⟨a, v, rfl, upd_same, fun dx nx ne => ⟨rfl, dx, [("at", v)], upd_same, ?_, ?_, ?_⟩⟩⟩
  · rw [upd_ne ne, upd_same]
  · rw [upd_ne ne] at nx
    exact nx
  · have hn : H dx = none := by
      rw [upd_ne ne] at nx
      exact nx
    have eq : upd (del (upd (upd (upd H a (exo a C none)) dx (exd dx [("at", v)])) a (exo a C (some dx))) a) dx (.xd [("at", v)]) = upd H dx (.xd [("at", v)]) := by
      funext b
      by_cases hb : b = dx
      · rw [hb, upd_same, upd_same]
      · rw [upd_ne hb, upd_ne hb]
        by_cases ha : b = a
        · rw [ha, del_same, na]
        · rw [del_ne ha, upd_ne ha, upd_ne hb, upd_ne ha]
    show W _ _ _ (upd (del (upd (upd (upd H a (exo a C none)) dx (exd dx [("at", v)])) a (exo a C (some dx))) a) dx (.xd [("at", v)]))
    rw [eq]
    exact k dx hn
/-- raise X() -/
def HasE0 (K : PySem.W.Frag) (mg : Str → Option Value) (x : Str) (C : Addr) : Prop := mg x = some (.ref C) ∧ PySem.W.excIn K C PySem.HandSPX.veTail "ValueError.__new__" = true
def tRz0 (C : Addr) (W : WX) : TS := fun _ σ H => W (.ref C) none σ H
theorem ps_rz0 {X : Cx} {W : WX} {S C : Addr} {x : Str} {p apos pos : Pos} (T : ExcAt X.K S C) (hf : HasE0 X.K X.mg x C) (hc : X.calm = true) (tk : L2N.Takes X W) (gl : Gl X x) (hdb : (x == ("__debug__" : Str)) = false := by decide) :
    PS X (.Raise (some (.Call (.Name x p) [] [] apos)) none pos) (tRz0 C W) :=
  L2N.ps_raise hc tk (mk_own0 PySem.F.excBase_ValueError hf.2 hf.1 T.kp (raises_own T.ex T.ty) gl hdb)
/-! ### the def that raises -/
def RaiseAt (c : Nat → Addr) (n : Nat) (x : V) (W : Value → Option Addr → Hp → Prop) (H : Hp) : Prop := (n ≤ 10 → ∀ d, H d = none → W (.ref (c n)) (some d) (upd H d (.xd [("at", x)]))) ∧ (10 < n → W (.ref (c n)) none H)
def spRz (c : Nat → Addr) : Sp := fun vs H _ E => ∃ (n : Nat) (x : V), n < 13 ∧ vs = [.int (n : Int), x] ∧ RaiseAt c n x E H
abbrev s_raise : Stmt := topS 17
theorem sc_raise : FnScope ["_law_at", "_law_thing"] ["_law_at", "_law_thing"] (defScope s_raise) := ⟨rfl, rfl, rfl, by decide +kernel, rfl, by decide +kernel, by decide +kernel⟩
structure KR (P : Program) (w : World) (K : PySem.W.Frag) (mg : Str → Option Value) (base : Heap) (c : Nat → Addr) : Prop where
  h : ∀ i, i ≤ 10 → HasEx P w K mg base (nm i) (c i)
  z : ∀ i, i = 11 ∨ i = 12 → HasE0 K mg (nm i) (c i)
theorem no {m k : Int} {t rest : TS} {D : Ends} {σ : L2.St} {H : Hp} (ne : (m == k) = false) (e : σ[0]? = some (some (.int m))) (h : rest D σ H) : tSeq (tIfS (tEqI 0 k) t tNext) rest D σ H := by
  refine ⟨m, e, ?_⟩
  rw [ne]
  exact h
theorem yes {m k : Int} {t rest : TS} {D : Ends} {σ : L2.St} {H : Hp} (e : σ[0]? = some (some (.int m))) (h : t { D with nx := rest D } σ H) (eq : (m == k) = true := by decide) : tSeq (tIfS (tEqI 0 k) t tNext) rest D σ H := by
  refine ⟨m, e, ?_⟩
  rw [eq]
  exact h
theorem run_raise {P : Program} {w : World} {K : PySem.W.Frag} {mg : Str → Option Value} {base : Heap} {S fa : Addr} {c : Nat → Addr} {fd : FuncData} (F : Fun K "_law_raise" "_law_raise" s_raise fa fd) (N : KN K mg S c) (R : KR P w K mg base c) :
    XG.FnG P w K mg base (L2N.CX P w) 3 fa fd ["_law_at", "_law_thing"] (spRz c) := by
  obtain ⟨oc, od, kV, doc, pm, an, cdv, ct, osl, rfl, lk, hcd⟩ := F.ex
  refine XG.fn_g lk hcd sc_raise (fun vs H Q E h => ?_) fun A outer s H vs Q E hg hr h => ?_
  · obtain ⟨n, x, _, rfl, _⟩ := h
    rfl
  · obtain ⟨n, x, hn, rfl, k⟩ := h
    have hu : (A.deeper (envOfC "_law_raise" (defScope s_raise) s.heap.objs.size fa cdv)).units + 65 < cLine := by have := hr.un; omega
    have tk := L2N.takes_of (X := cxOf (L2N.CX P w) P w K mg base ["_law_at", "_law_thing"] "_law_raise" (defScope s_raise) fa cdv A outer s H E) (E := E) rfl rfl rfl rfl
    refine ⟨_, pss_cons (ps_if (pt_eqI (i := 0) rfl (.inl rfl)) (pss_one (ps_rz (R.h 0 (by decide)) rfl tk hr rfl (j := 1) rfl (.inl rfl))) pss_nil)
      (pss_cons (ps_if (pt_eqI (i := 0) rfl (.inl rfl)) (pss_one (ps_rz (R.h 1 (by decide)) rfl tk hr rfl (j := 1) rfl (.inl rfl))) pss_nil)
      (pss_cons (ps_if (pt_eqI (i := 0) rfl (.inl rfl)) (pss_one (ps_rz (R.h 2 (by decide)) rfl tk hr rfl (j := 1) rfl (.inl rfl))) pss_nil)
      (pss_cons (ps_if (pt_eqI (i := 0) rfl (.inl rfl)) (pss_one (ps_rz (R.h 3 (by decide)) rfl tk hr rfl (j := 1) rfl (.inl rfl))) pss_nil)
      (pss_cons (ps_if (pt_eqI (i := 0) rfl (.inl rfl)) (pss_one (ps_rz (R.h 4 (by decide)) rfl tk hr rfl (j := 1) rfl (.inl rfl))) pss_nil)
      (pss_cons (ps_if (pt_eqI (i := 0) rfl (.inl rfl)) (pss_one (ps_rz (R.h 5 (by decide)) rfl tk hr rfl (j := 1) rfl (.inl rfl))) pss_nil)
      (pss_cons (ps_if (pt_eqI (i := 0) rfl (.inl rfl)) (pss_one (ps_rz (R.h 6 (by decide)) rfl tk hr rfl (j := 1) rfl (.inl rfl))) pss_nil)
      (pss_cons (ps_if (pt_eqI (i := 0) rfl (.inl rfl)) (pss_one (ps_rz (R.h 7 (by decide)) rfl tk hr rfl (j := 1) rfl (.inl rfl))) pss_nil)
      (pss_cons (ps_if (pt_eqI (i := 0) rfl (.inl rfl)) (pss_one (ps_rz (R.h 8 (by decide)) rfl tk hr rfl (j := 1) rfl (.inl rfl))) pss_nil)
      (pss_cons (ps_if (pt_eqI (i := 0) rfl (.inl rfl)) (pss_one (ps_rz (R.h 9 (by decide)) rfl tk hr rfl (j := 1) rfl (.inl rfl))) pss_nil)
      (pss_cons (ps_if (pt_eqI (i := 0) rfl (.inl rfl)) (pss_one (ps_rz (R.h 10 (by decide)) rfl tk hr rfl (j := 1) rfl (.inl rfl))) pss_nil)
      (pss_cons (ps_if (pt_eqI (i := 0) rfl (.inl rfl)) (pss_one (ps_rz0 (N.cl 11 (by decide)) (R.z 11 (by decide)) rfl tk rfl)) pss_nil)
      (pss_one (ps_rz0 (N.cl 12 (by decide)) (R.z 12 (by decide)) rfl tk rfl))))))))))))), ?_⟩
    obtain ⟨k1, k2⟩ := k
    match n, hn, k1, k2 with
    | 0, _, k1, k2 => exact yes rfl ⟨x, rfl, k1 (by decide)⟩
    | 1, _, k1, k2 => exact no (by decide) rfl (yes rfl ⟨x, rfl, k1 (by decide)⟩)
    | 2, _, k1, k2 => exact no (by decide) rfl (no (by decide) rfl (yes rfl ⟨x, rfl, k1 (by decide)⟩))
    | 3, _, k1, k2 => exact no (by decide) rfl (no (by decide) rfl (no (by decide) rfl (yes rfl ⟨x, rfl, k1 (by decide)⟩)))
    | 4, _, k1, k2 => exact no (by decide) rfl (no (by decide) rfl (no (by decide) rfl (no (by decide) rfl (yes rfl ⟨x, rfl, k1 (by decide)⟩))))
    | 5, _, k1, k2 => exact no (by decide) rfl (no (by decide) rfl (no (by decide) rfl (no (by decide) rfl (no (by decide) rfl (yes rfl ⟨x, rfl, k1 (by decide)⟩)))))
    | 6, _, k1, k2 => exact no (by decide) rfl (no (by decide) rfl (no (by decide) rfl (no (by decide) rfl (no (by decide) rfl (no (by decide) rfl (yes rfl ⟨x, rfl, k1 (by decide)⟩))))))
    | 7, _, k1, k2 => exact no (by decide) rfl (no (by decide) rfl (no (by decide) rfl (no (by decide) rfl (no (by decide) rfl (no (by decide) rfl (no (by decide) rfl (yes rfl ⟨x, rfl, k1 (by decide)⟩)))))))
    | 8, _, k1, k2 => exact no (by decide) rfl (no (by decide) rfl (no (by decide) rfl (no (by decide) rfl (no (by decide) rfl (no (by decide) rfl (no (by decide) rfl (no (by decide) rfl (yes rfl ⟨x, rfl, k1 (by decide)⟩))))))))
    | 9, _, k1, k2 => exact no (by decide) rfl (no (by decide) rfl (no (by decide) rfl (no (by decide) rfl (no (by decide) rfl (no (by decide) rfl (no (by decide) rfl (no (by decide) rfl (no (by decide) rfl (yes rfl ⟨x, rfl, k1 (by decide)⟩)))))))))
    | 10, _, k1, k2 => exact no (by decide) rfl (no (by decide) rfl (no (by decide) rfl (no (by decide) rfl (no (by decide) rfl (no (by decide) rfl (no (by decide) rfl (no (by decide) rfl (no (by decide) rfl (no (by decide) rfl (yes rfl ⟨x, rfl, k1 (by decide)⟩))))))))))
    | 11, _, k1, k2 => exact no (by decide) rfl (no (by decide) rfl (no (by decide) rfl (no (by decide) rfl (no (by decide) rfl (no (by decide) rfl (no (by decide) rfl (no (by decide) rfl (no (by decide) rfl (no (by decide) rfl (no (by decide) rfl (yes rfl (k2 (by decide)))))))))))))
    | 12, _, k1, k2 => exact no (by decide) rfl (no (by decide) rfl (no (by decide) rfl (no (by decide) rfl (no (by decide) rfl (no (by decide) rfl (no (by decide) rfl (no (by decide) rfl (no (by decide) rfl (no (by decide) rfl (no (by decide) rfl (no (by decide) rfl (k2 (by decide)))))))))))))
end UH

set_option maxRecDepth 100000
set_option maxHeartbeats 4000000
/-! which class it is of: the def that tells -/
namespace UH
open PySem PySem.Spec PyProof.Rows L2 Evl XN

def tIs (a : Addr) (d : Option Addr) (n i : Nat) : TE := fun σ H Q => σ[0]? = some (some (.ref a)) ∧ DictX d H ∧ Q (.bl (decide (i = n))) H
def tBs (a : Addr) (d : Option Addr) (n : Nat) (is : List Nat) : TA := fun σ H Q => σ[0]? = some (some (.ref a)) ∧ DictX d H ∧ Q ((is.map fun i => decide (i = n)).map V.bl) H
theorem DictX.up {d : Option Addr} {H H' : Hp} (e : Ex H H') (h : DictX d H) : DictX d H' := h.imp id fun ⟨dd, fs, a, b⟩ => ⟨dd, fs, a, e _ _ b⟩
section
variable {X : Cx} {S a : Addr} {c : Nat → Addr} {d : Option Addr} {n : Nat} {oe : Obj}
theorem pe_is {x y : Str} {i : Nat} {p q1 q2 pos : Pos} (T : KN X.K X.mg S c) (hn : n < 13) (hi : i < 13) (mem : (a, oe) ∈ X.pn) (z : Zc (.ref (c n)) d oe) (hf : ∃ vs, oe.data = .fields vs) (gl : Gl X "isinstance") (hm : X.mg "isinstance" = none) (gy : Gl X y) (ey : y = nm i) (hx : X.N[0]? = some x) (hv : Vis X.env.scope x)
    (hd : (x == ("__debug__" : Str)) = false := by decide) (hcd : (x == ("__classdict__" : Str)) = false := by decide) (hdy : (y == ("__debug__" : Str)) = false := by decide) : PE X (.Call (.Name "isinstance" p) [.Name x q1, .Name y q2] [] pos) (tIs a d n i) := by
  subst ey
  refine ⟨fun pins s σ H Q I h => ?_⟩
  obtain ⟨e, dx, q⟩ := h
  exact (pe_callB (call_isX (T.cl n hn).xc T.xk mem z hf) gl hm (by rfl) (pa_cons (pe_var hx hv hd hcd) (pa_cons (pe_glob (v := .ref (c i)) gy (T.mn i hi) rfl hdy) pa_nil))).run pins s σ H Q I ⟨.ref a, e, .ref (c i), .ref (c i), _, rfl, fun u r => r, T.kit hn hi, dx, q⟩
theorem pa_is0 : PA X [] (tBs a d n []) := ⟨fun pos pins s σ H Q I h => pa_nil.run pos pins s σ H Q I h.2.2⟩
theorem pa_is {e : Expr} {es : List Expr} {i : Nat} {is : List Nat} (h1 : PE X e (tIs a d n i)) (h2 : PA X es (tBs a d n is)) (hst : starEach (e :: es) X.env = (false, eval e X.env) :: starEach es X.env := by rfl) : PA X (e :: es) (tBs a d n (i :: is)) :=
  ⟨fun pos pins s σ H Q I h => (pa_cons h1 h2 hst).run pos pins s σ H Q I ⟨h.1, h.2.1, h.1, h.2.1, h.2.2⟩⟩
end
theorem dpa_bls {K : PySem.W.Frag} {H : Hp} : ∀ bs : List Bool, DpAll K H (bs.map V.bl) (bs.map PyData.bool)
  | [] => .nil
  | b :: bs => .cons (.bl b) (dpa_bls bs)
theorem bls_of {K : PySem.W.Frag} {H : Hp} : ∀ (bs : List Bool) (vs : List V), DpAll K H vs (bs.map PyData.bool) → vs = bs.map V.bl
  | [], _, h => by cases h; rfl
  | b :: bs, _, h => by
    cases h with
    | cons h1 h2 =>
      cases h1
      rw [bls_of bs _ h2]
      rfl
section
variable {K : PySem.W.Frag} {a l : Addr} {d : Option Addr} {n : Nat} {is : List Nat} {σ : L2.St} {H : Hp} {Q : VK} {bs : List Bool}
theorem lst_val (e0 : σ[0]? = some (some (.ref a))) (dx : DictX d H) (hl : is.length ≤ 1000) (q : ∀ p, H p = none → Q (.ref p) (upd H p (.lst ((is.map fun i => decide (i = n)).map V.bl)))) : tLst (tBs a d n is) σ H Q := by
  refine ⟨e0, dx, ?_, q⟩
  rw [List.length_map, List.length_map, sizeLine_eq]
  omega
theorem add_val (e0 : σ[0]? = some (some (.ref a))) (dx : DictX d H) (e1 : σ[1]? = some (some (.ref l))) (hl : H l = some (.lst (bs.map V.bl))) (h1 : bs.length ≤ 1000) (h2 : is.length ≤ 1000)
    (q : ∀ p H', Ex H H' → H p = none → H' p = some (.lst ((bs ++ is.map fun i => decide (i = n)).map V.bl)) → Q (.ref p) H') : tOp (rOf2 K opAdd) (tVar 1) (tLst (tBs a d n is)) σ H Q := by
  refine ⟨.ref l, e1, lst_val e0 dx h2 fun p np => ?_⟩
  have ne : l ≠ p := fun z => by
    rw [z, np] at hl
    cases hl
  refine ⟨_, .list (bs.map .bool), .list ((is.map fun i => decide (i = n)).map .bool), .l ((bs ++ is.map fun i => decide (i = n)).map .bool), Ex.refl _, ⟨l, _, rfl, sq_of ((upd_ne ne).trans hl), dpa_bls _⟩, ⟨p, _, rfl, sq_of upd_same, dpa_bls _⟩, ?_, fun p' vs np' dv => ?_⟩
  · show (if _ then _ else _) = _
    rw [if_pos (by simp only [List.length_map]; omega), List.map_append]
  · rw [bls_of _ _ dv]
    refine q p' _ ((Ex.new np).trans (Ex.new np')) ?_ upd_same
    cases z : H p' with
    | none => rfl
    | some o => exact absurd (Ex.new (o := .lst ((is.map fun i => decide (i = n)).map V.bl)) np _ _ z) (by rw [np']; exact fun z => nomatch z)
end
theorem seq_set {te : TE} {rest : TS} {i : Nat} {D : Ends} {σ : L2.St} {H : Hp} (h : te σ H fun x H1 => rest D (σ.set i (some x)) H1) : tSeq (tAsg te (gName i)) rest D σ H := h
theorem ret_val {te : TE} {D : Ends} {σ : L2.St} {H : Hp} (h : te σ H D.rt) : tRet te D σ H := h
abbrev s_marks : Stmt := topS 16
theorem sc_marks : FnScope ["_law_e", "_law_found"] ["_law_e"] (defScope s_marks) := ⟨rfl, rfl, rfl, by decide +kernel, rfl, by decide +kernel, by decide +kernel⟩
def marks (n : Nat) : List Bool := [0, 1, 2, 3, 4, 5, 6, 7, 8, 9, 10, 11, 12].map fun i => decide (i = n)
def spMk (c : Nat → Addr) (p : Addr × Obj) : Sp := fun vs H Q _ => ∃ (n : Nat) (d : Option Addr), n < 13 ∧ Zc (.ref (c n)) d p.2 ∧ (∃ vs, p.2.data = .fields vs) ∧ DictX d H ∧ vs = [.ref p.1] ∧ ∀ l H', Ex H H' → H l = none → H' l = some (.lst ((marks n).map V.bl)) → Q (.ref l) H'
theorem run_marks {P : Program} {w : World} {K : PySem.W.Frag} {mg : Str → Option Value} {base : Heap} {S fa : Addr} {c : Nat → Addr} {fd : FuncData} (F : Fun K "_law_marks" "_law_marks" s_marks fa fd) (N : KN K mg S c) (hm : mg "isinstance" = none) :
    FnP P w K mg base CX0 1 fa fd ["_law_e"] (spMk c) := by
  refine fun_p F sc_marks (fun p vs H Q E h => ?_) fun cdv A outer s H vs Q E p g hot hr h => ?_
  · obtain ⟨n, d, _, _, _, _, rfl, _⟩ := h
    rfl
  · obtain ⟨n, d, hn, z, hf, dx, rfl, q⟩ := h
    obtain ⟨a, oe⟩ := p
    have is : ∀ (i : Nat) (y : Str) (p q1 q2 pos : Pos), i < 13 → Gl (L2H.cxH CX0 P w K mg base ["_law_e", "_law_found"] "_law_marks" (defScope s_marks) fa cdv A outer s H E (a, oe)) y → y = nm i → (y == ("__debug__" : Str)) = false →
        PE (L2H.cxH CX0 P w K mg base ["_law_e", "_law_found"] "_law_marks" (defScope s_marks) fa cdv A outer s H E (a, oe)) (.Call (.Name "isinstance" p) [.Name "_law_e" q1, .Name y q2] [] pos) (tIs a d n i) := fun i y p q1 q2 pos hi gy ey hdy =>
      pe_is N hn hi (List.mem_singleton.mpr rfl) z hf rfl hm gy ey rfl (.inl rfl) (by decide) (by decide) hdy
    refine ⟨_, pss_cons (ps_set sc_marks.nd (i := 1) rfl (.inl rfl) (pe_lst (pa_is (is 0 _ _ _ _ _ (by decide) rfl rfl (by decide)) (pa_is (is 1 _ _ _ _ _ (by decide) rfl rfl (by decide)) (pa_is (is 2 _ _ _ _ _ (by decide) rfl rfl (by decide)) (pa_is (is 3 _ _ _ _ _ (by decide) rfl rfl (by decide)) pa_is0))))))
      (pss_cons (ps_set sc_marks.nd (i := 1) rfl (.inl rfl) (pe_op or_add (pe_var (i := 1) rfl (.inl rfl)) (pe_lst (pa_is (is 4 _ _ _ _ _ (by decide) rfl rfl (by decide)) (pa_is (is 5 _ _ _ _ _ (by decide) rfl rfl (by decide)) (pa_is (is 6 _ _ _ _ _ (by decide) rfl rfl (by decide)) (pa_is (is 7 _ _ _ _ _ (by decide) rfl rfl (by decide)) pa_is0)))))))
      (pss_cons (ps_set sc_marks.nd (i := 1) rfl (.inl rfl) (pe_op or_add (pe_var (i := 1) rfl (.inl rfl)) (pe_lst (pa_is (is 8 _ _ _ _ _ (by decide) rfl rfl (by decide)) (pa_is (is 9 _ _ _ _ _ (by decide) rfl rfl (by decide)) (pa_is (is 10 _ _ _ _ _ (by decide) rfl rfl (by decide)) pa_is0))))))
      (pss_one (ps_ret (pe_op or_add (pe_var (i := 1) rfl (.inl rfl)) (pe_lst (pa_is (is 11 _ _ _ _ _ (by decide) rfl rfl (by decide)) (pa_is (is 12 _ _ _ _ _ (by decide) rfl rfl (by decide)) pa_is0)))))))), ?_⟩
    have e0 : (start ["_law_e", "_law_found"] [V.ref a])[0]? = some (some (.ref a)) := rfl
    refine seq_set (lst_val e0 dx (by decide) fun l1 n1 => ?_)
    have x1 : Ex H (upd H l1 (.lst (([0, 1, 2, 3].map fun i => decide (i = n)).map V.bl))) := Ex.new n1
    refine seq_set (add_val (l := l1) rfl (dx.up x1) rfl upd_same (by simp) (by decide) fun l2 H2 x2 n2 e2 => ?_)
    refine seq_set (add_val (l := l2) rfl (dx.up (x1.trans x2)) rfl e2 (by simp) (by decide) fun l3 H3 x3 n3 e3 => ?_)
    refine ret_val (add_val (l := l3) rfl (dx.up ((x1.trans x2).trans x3)) rfl e3 (by simp) (by decide) fun l4 H4 x4 n4 e4 => ?_)
    have x5 := (x1.trans x2).trans x3
    refine q l4 H4 (x5.trans x4) ?_ e4
    cases z : H l4 with
    | none => rfl
    | some o => exact absurd (x5 _ _ z) (by rw [n4]; exact fun z => nomatch z)
end UH

set_option maxRecDepth 100000
set_option maxHeartbeats 4000000
/-! the def that hears -/
namespace UH
open PySem PySem.Spec PyProof.Rows L2 Evl XN

section
variable {σ : L2.St} {H : Hp} {Q : VK} {n : Nat}
theorem marks_range : ((List.range 13).map fun j => decide (j = n)) = marks n := by
  show _ = List.map _ _
  congr 1
theorem lc_val (e0 : σ[0]? = some (some (.int (n : Int)))) (hl : σ.length = 4) (q : ∀ l, H l = none → Q (.ref l) (upd H l (.lst ((marks n).map V.bl)))) : tLc (iRng1 (tCons (tC (.int 13)) tNil)) (gName 3) tYes (tOp rEq (tVar 3) (tVar 0)) [3] σ H Q := by
  refine ⟨13, rfl, by decide, by decide, fun D nD => ?_⟩
  refine lc_range (fun i H' => H' = upd H D (.lst (((List.range i).map fun j => decide (j = n)).map V.bl))) rfl (fun i H' hi e => ?_) fun H' e => ?_
  · subst e
    have w : wipe σ [3] = σ.set 3 none := rfl
    show _ ∧ _
    refine ⟨?_, .int (0 + (i : Int)), ?_, .int (n : Int), ?_, rfl, ?_⟩
    · rw [w]
      show ((σ.set 3 none).set 3 _).set 3 none = σ.set 3 none
      rw [List.set_set, List.set_set]
    · rw [w, List.set_set, List.getElem?_set_self (by omega)]
    · rw [w, List.set_set, List.getElem?_set_ne (by decide)]
      exact e0
    · refine ⟨_, upd_same, ?_, ?_⟩
      · rw [List.length_map, List.length_map, List.length_range, sizeLine_eq]
        omega
      · rw [dec_int]
        have e : ((0 + (i : Int)) == (n : Int)) = decide (i = n) := by
          rw [Bool.eq_iff_iff]
          simp
          omega
        rw [e]
        have e2 : ∀ (x y : HO), upd (upd H D x) D y = upd H D y := fun x y => by
          funext b
          by_cases z : b = D
          · rw [z, upd_same, upd_same]
          · rw [upd_ne z, upd_ne z, upd_ne z]
        rw [e2, List.range_succ, List.map_append, List.map_append]
        rfl
  · subst e
    show Q _ (upd H D (.lst (((List.range 13).map fun j => decide (j = n)).map V.bl)))
    rw [marks_range]
    exact q D nD
end
/-! ### readings in the suite -/
def tMk (c : Nat → Addr) (a : Addr) (cls : Value) (d : Option Addr) : TE := fun σ H Q => ∃ n, n < 13 ∧ cls = .ref (c n) ∧ σ[2]? = some (some (.ref a)) ∧ DictX d H ∧ ∀ l H', Ex H H' → H l = none → H' l = some (.lst ((marks n).map V.bl)) → Q (.ref l) H'
def tVE (c : Nat → Addr) (a : Addr) (cls : Value) (d : Option Addr) : TE := fun σ H Q => ∃ n, n < 13 ∧ cls = .ref (c n) ∧ σ[2]? = some (some (.ref a)) ∧ DictX d H ∧ Q (.bl true) H
def tAt (c : Nat → Addr) (a : Addr) (cls : Value) (d : Option Addr) : TE := fun σ H Q => ∃ n, n < 13 ∧ cls = .ref (c n) ∧ σ[2]? = some (some (.ref a)) ∧ ∃ (dd : Addr) (fs : List (Str × V)) (v : V), d = some dd ∧ H dd = some (.xd fs) ∧ fs.lookup ("at" : Str) = some v ∧ Q v H
section
variable {X : Cx} {S a : Addr} {c : Nat → Addr} {d : Option Addr} {oe : Obj} {cls : Value} {pn : List (Addr × Obj)} {x : Str} {p q1 q2 pos : Pos}
theorem hot_of (z : L2N.Zn cls d oe) (hf : ∃ vs, oe.data = .fields vs) : L2H.Hot1 (X.suite a ((a, oe) :: pn)).A (a, oe) := by
  obtain ⟨vs, e⟩ := hf
  exact ⟨rfl, vs, e, z.2.2 vs e⟩
theorem pe_mk {f : Addr} {fd : FuncData} {y : Str} (F : FnP X.prog X.w X.K X.mg X.base CX0 1 f fd ["_law_e"] (spMk c)) (hg : X.A.guards = some []) (hr : L2H.RoomH 1 X.A) (z : L2N.Zn cls d oe) (hf : ∃ vs, oe.data = .fields vs) (gl : Gl X y) (hm : X.mg y = some (.ref f)) (hk : PySem.W.keepIn X.K (.ref f) = true)
    (hb : Binds X.K fd ["_law_e"] []) (hx : X.N[2]? = some x) (hv : Vis X.env.scope x) (hd : (x == ("__debug__" : Str)) = false := by decide) (hcd : (x == ("__classdict__" : Str)) = false := by decide) (hdy : (y == ("__debug__" : Str)) = false := by decide) :
    PE (X.suite a ((a, oe) :: pn)) (.Call (.Name y p) [.Name x q1] [] pos) (tMk c a cls d) := by
  refine ⟨fun pins s σ H Q I h => ?_⟩
  obtain ⟨n, hn, rfl, e, dx, k⟩ := h
  exact (pe_p (X := X.suite a ((a, oe) :: pn)) (E := E0) F hg ⟨hr.dp, hr.un⟩ (hot_of z hf) (List.mem_cons_self ..) gl hm hk hb pass0 (pa_cons (pe_var (X := X.suite a ((a, oe) :: pn)) (i := 2) hx hv hd hcd) pa_nil) hdy).run pins s σ H Q I ⟨.ref a, e, n, d, hn, z.zc, hf, dx, rfl, k⟩
theorem pe_ve (N : KN X.K X.mg S c) (z : L2N.Zn cls d oe) (hf : ∃ vs, oe.data = .fields vs) (gl : Gl X "isinstance") (hm : X.mg "isinstance" = none) (gv : Gl X "ValueError") (hmv : X.mg "ValueError" = none) (hx : X.N[2]? = some x) (hv : Vis X.env.scope x) (hd : (x == ("__debug__" : Str)) = false := by decide) (hcd : (x == ("__classdict__" : Str)) = false := by decide) :
    PE (X.suite a ((a, oe) :: pn)) (.Call (.Name "isinstance" p) [.Name x q1, .Name "ValueError" q2] [] pos) (tVE c a cls d) := by
  refine ⟨fun pins s σ H Q I h => ?_⟩
  obtain ⟨n, hn, rfl, e, dx, q⟩ := h
  exact (pe_callB (X := X.suite a ((a, oe) :: pn)) (call_isX (N.cl n hn).xc N.xk (List.mem_cons_self ..) z.zc hf) gl hm (by rfl) (pa_cons (pe_var (X := X.suite a ((a, oe) :: pn)) (i := 2) hx hv hd hcd) (pa_cons (pe_bltn (v := .ty "ValueError") (u := .type "ValueError") gv hmv (by rfl) rfl) pa_nil))).run pins s σ H Q I
    ⟨.ref a, e, .ty "ValueError", .type "ValueError", true, rfl, fun u r => r, (N.cl n hn).ve, dx, q⟩
theorem pe_at (N : KN X.K X.mg S c) (z : L2N.Zn cls d oe) (hf : ∃ vs, oe.data = .fields vs) (hx : X.N[2]? = some x) (hv : Vis X.env.scope x) (hd : (x == ("__debug__" : Str)) = false := by decide) (hcd : (x == ("__classdict__" : Str)) = false := by decide)
    (hb : attributeBase (.Name x q1) "at" X.env (eval (.Name x q1) X.env) = eval (.Name x q1) X.env := by rfl) : PE (X.suite a ((a, oe) :: pn)) (.Attribute (.Name x q1) "at" pos) (tAt c a cls d) := by
  refine ⟨fun pins s σ H Q I h => ?_⟩
  obtain ⟨n, hn, rfl, e, dd, fs, v, ed, hdd, l, q⟩ := h
  have T := N.cl n hn
  exact (pe_xf (C := c n) ⟨T.ga, T.gg, T.ex, T.hd⟩ T.fa z.zc hf (pe_var (X := X.suite a ((a, oe) :: pn)) (i := 2) hx hv hd hcd) hb).run pins s σ H Q I ⟨.ref a, e, rfl, rfl, dd, fs, v, ed, hdd, l, q⟩
end
end UH

set_option maxRecDepth 100000
set_option maxHeartbeats 4000000
namespace UH
open PySem PySem.Spec PyProof.Rows L2 Evl XN

section
variable {X : Cx} {CX : CXT} {k : Nat} {f : Addr} {fd : FuncData} {ps : List Str} {sp : Sp} {E : L2.St → XK} {x : Str} {p pos : Pos} {e : Expr} {es : List Expr} {t : TA}
theorem run_gS {pins : List (Addr × Obj)} {σ : L2.St} {H : Hp} {s : Shared} {Q : VK} {us : List Value} {vs : List V} (F : XG.FnG X.prog X.w X.K X.mg X.base CX k f fd ps sp) (hg : X.A.guards = some []) (hr : Room k X.A)
    (hb : Binds X.K fd ps []) (hx : PassesAt CX X σ (E σ)) (I : Inv X pins σ H s) (r : Vals vs us) (h : sp vs H Q (E σ)) : wpAny (model X.prog X.w) X.A (call (.ref f) us) (EP X pins σ Q) X.xe s := by
  have hl : us.length = ps.length := r.length.symm.trans (F.many _ _ _ _ h)
  have b := hb s us I.kIn (by rw [List.append_nil]; exact hl)
  rw [List.append_nil] at b
  refine wpAny_call (codeAny_mono (F.go X.A X.stack s H ⟨us, []⟩ us vs Q (E σ) hg hr I.env0 b r h) fun res s' q => ?_)
  match res, q with
  | .error e, q => exact hx pins H s e s' I q
  | .ok (.ret u), q => exact I.after q
theorem pe_gS (F : XG.FnG X.prog X.w X.K X.mg X.base CX k f fd ps sp) (hg : X.A.guards = some []) (hr : Room k X.A) (gl : Gl X x) (hm : X.mg x = some (.ref f)) (hk : PySem.W.keepIn X.K (.ref f) = true) (hb : Binds X.K fd ps [])
    (hx : ∀ σ, PassesAt CX X σ (E σ)) (ha : PA X (e :: es) t) (hdb : (x == ("__debug__" : Str)) = false := by decide) (he : starEach (e :: es) X.env = (false, eval e X.env) :: starEach es X.env := by rfl)
    (hpl : (backTo pos (starEach es X.env)).any (·.1) = false := by rfl) : PE X (.Call (.Name x p) (e :: es) [] pos) (tCallS sp E t) := by
  refine ⟨fun pins s σ H Q I h => wpAny_Call_Name_kw (ld_glob I gl hm ?_ hdb)⟩
  refine PySem.W.callWith_K (h₀ := X.base) I.ok.mod.kin hk (thn (ha.run pos pins s σ H _ I h) fun us s1 q => ?_) he hpl
  obtain ⟨vs, H1, I1, r, q⟩ := q
  exact ⟨I1.kIn, run_gS F hg hr hb (hx σ) I1 r q⟩
end
theorem takesN {X : Cx} : L2N.Takes X (fun _ _ _ _ => False) := fun u s' ⟨a, B, sI, pins, σ, H, cls, d, e, I, nb, up, sky, na, os, ag, w⟩ => w.elim
abbrev s_heard : Stmt := topS 18
theorem sc_heard : FnScope ["_law_at", "_law_thing", "_law_e", "_law_spot"] ["_law_at", "_law_thing"] (defScope s_heard) := ⟨rfl, rfl, rfl, by decide +kernel, rfl, by decide +kernel, by decide +kernel⟩
/-- the suite of the text -/
def hearSuite (s : Stmt) : List Stmt := match (defBody s).getD 0 (.Pass ⟨0, 0, 0, 0⟩) with
  | .Try _ [.ExceptHandler _ _ b _] _ _ _ => b
  | _ => []
abbrev hX (P : Program) (w : World) (K : PySem.W.Frag) (mg : Str → Option Value) (base : Heap) (fa : Addr) (cdv : Value) (A : Around) (outer : List Env) (s : Shared) (H : Hp) (E : XK) : Cx := cxOf CX0 P w K mg base ["_law_at", "_law_thing", "_law_e", "_law_spot"] "_law_heard" (defScope s_heard) fa cdv A outer s H E
/-- what can be shown by repr -/
def Shows (y : PyData) : Prop := PyData.showable y = true ∧ y.depth ≤ 30 ∧ y.shown.length ≤ sizeLine
/-- the suite gives True -/
def tSuite (K : PySem.W.Frag) (c : Nat → Addr) (a : Addr) (cls : Value) (d : Option Addr) : TS := fun D σ H => ∃ (n : Nat) (x : V) (y : PyData), n < 13 ∧ cls = .ref (c n) ∧ σ.length = 4 ∧ σ[0]? = some (some (.int (n : Int))) ∧ σ[1]? = some (some x) ∧ σ[2]? = some (some (.ref a)) ∧ DictX d H ∧
  (n ≤ 10 → ∃ (dd : Addr) (fs : List (Str × V)), d = some dd ∧ H dd = some (.xd fs) ∧ fs.lookup ("at" : Str) = some x) ∧ Dp K H x y ∧ Shows y ∧ ∀ H', Ex H H' → D.rt (.bl true) H'
theorem eqv_bls : ∀ bs : List Bool, PyData.eqvAll (bs.map PyData.bool) (bs.map PyData.bool) = true
  | [] => by simp [PyData.eqvAll]
  | b :: bs => by
    simp only [List.map_cons, PyData.eqvAll, PyData.eqv, eqv_bls bs]
    simp
theorem lay_bls : ∀ bs : List Bool, PyData.canLayAll0 (bs.map PyData.bool) = true
  | [] => by simp [PyData.canLayAll0]
  | b :: bs => by
    simp only [List.map_cons, PyData.canLayAll0, PyData.canLay0, lay_bls bs]
    simp
theorem dep_bls : ∀ bs : List Bool, PyData.depthAll (bs.map PyData.bool) ≤ 1
  | [] => by simp [PyData.depthAll]
  | b :: bs => by
    simp only [List.map_cons, PyData.depthAll, PyData.depth]
    have := dep_bls bs
    omega
theorem ne_bls (bs : List Bool) : opNe (.list (bs.map PyData.bool)) (.list (bs.map PyData.bool)) = some (.d (.bool false)) := by
  have sh : SeqAt.shaped (.list (bs.map PyData.bool)) = true := by
    show (PyData.canLay0 (.list (bs.map PyData.bool)) && decide (PyData.depth (.list (bs.map PyData.bool)) ≤ 64)) = true
    rw [PyData.canLay0, PyData.depth, lay_bls, Bool.true_and]
    have := dep_bls bs
    exact decide_eq_true (by omega)
  show (if SeqAt.shaped _ = true ∧ SeqAt.shaped _ = true then some (PV.d (.bool (!PyData.eqv _ _))) else none) = _
  rw [if_pos ⟨sh, sh⟩, PyData.eqv, eqv_bls]
  rfl
theorem pss_imp {X : Cx} {st : List Stmt} {t t' : TS} (h : PSs X st t) (i : ∀ D σ H, t' D σ H → t D σ H) : PSs X st t' := ⟨fun pins s σ H D I q => h.run pins s σ H D I (i _ _ _ q)⟩
/-- what the def that hears gives, on data -/
noncomputable def f__law_heard : DFun := fun as b => match as with
  | [.d (.int n), .d y] => open Classical in if 0 ≤ n ∧ n < 13 ∧ Shows y then some (.d (.bool true), b) else none
  | _ => none
theorem heard_inv {as : List SV} {b b' : List Int} {r : SV} (e : f__law_heard as b = some (r, b')) : ∃ (n : Nat) (y : PyData), as = [.d (.int (n : Int)), .d y] ∧ n < 13 ∧ Shows y ∧ r = .d (.bool true) ∧ b' = b := by
  unfold f__law_heard at e
  split at e
  · rename_i n y
    split at e
    · rename_i h
      obtain ⟨h0, h1, h2⟩ := h
      obtain ⟨rfl, rfl⟩ := Prod.mk.inj (Option.some.inj e)
      exact ⟨n.toNat, y, by rw [Int.toNat_of_nonneg h0], by omega, h2, rfl, rfl⟩
    · cases e
  · cases e
/-- things that came since -/
theorem grown {K : PySem.W.Frag} {B : Option Addr} {Fr H0 H H' : Hp} {s : SS} {σ : L2.St} {v : V} {x : PyData} (R : Rel K B Fr H0 s σ H) (e : Ex H H') (d : Dp K H0 v x) : Rel K B Fr H0 ⟨[some (.d x)], s.b⟩ [some v] H' where
  e0 := R.e0.trans e
  ef := R.ef.trans e
  dj := R.dj
  box := fun p hp => let ⟨a, b, c⟩ := R.box p hp; ⟨a, b, e _ _ c⟩
  len := rfl
  bb := R.bb
  sl := fun i w hi => by
    cases i with
    | zero =>
      cases hi
      exact ⟨v, rfl, d⟩
    | succ i => cases hi
  ne := fun i j xs ys p n hi hj => by
    cases i with
    | zero => cases hi
    | succ i => cases hi
section
variable {P : Program} {w : World} {K : PySem.W.Frag} {mg : Str → Option Value} {base : Heap} {S fm fr fa : Addr} {c : Nat → Addr} {fdm fdr fd : FuncData}
theorem run_heard (F : Fun K "_law_heard" "_law_heard" s_heard fa fd) (N : KN K mg S c) (FM : FnP P w K mg base CX0 1 fm fdm ["_law_e"] (spMk c)) (mm : mg "_law_marks" = some (.ref fm)) (km : PySem.W.keepIn K (.ref fm) = true) (bm : Binds K fdm ["_law_e"] [])
    (FR : XG.FnG P w K mg base (L2N.CX P w) 3 fr fdr ["_law_at", "_law_thing"] (spRz c)) (mr : mg "_law_raise" = some (.ref fr)) (kr : PySem.W.keepIn K (.ref fr) = true) (br : Binds K fdr ["_law_at", "_law_thing"] []) (mi : mg "isinstance" = none) (mv : mg "ValueError" = none) (mR : mg "range" = none) (mp : mg "repr" = none) :
    XG.FnG P w K mg base CX0 4 fa fd ["_law_at", "_law_thing"] (spD K 2 f__law_heard) := by
  obtain ⟨oc, od, kV, doc, pm, an, cdv, ct, osl, rfl, lk, hcd⟩ := F.ex
  refine XG.fn_g lk hcd sc_heard (fun vs H Q E h => ?_) fun A outer s H vs Q E hg hr h => ?_
  · obtain ⟨B, Fr, H0, as, b, r, b', R, hl, _⟩ := h
    exact hl
  · have hr : Room 3 (A.deeper (envOfC "_law_heard" (defScope s_heard) s.heap.objs.size fa cdv)) := hr
    have hu : (A.deeper (envOfC "_law_heard" (defScope s_heard) s.heap.objs.size fa cdv)).units + 65 < cLine := by have := hr.un; omega
    have hu2 : (A.deeper (envOfC "_law_heard" (defScope s_heard) s.heap.objs.size fa cdv)).units + 64 < cLine := by omega
    have suite : ∀ (a : Addr) (oe : Obj) (cls : Value) (d : Option Addr) (pn : List (Addr × Obj)), L2N.Zn cls d oe → (∃ vs, oe.data = .fields vs) →
        PSs ((hX P w K mg base fa cdv A outer s H E).suite a ((a, oe) :: pn)) (hearSuite s_heard) (tSuite K c a cls d) := by
      intro a oe cls d pn z hf
      refine pss_imp (pss_cons (ps_if (pw_or (pt_cmpR (or_ne hu) (pe_mk (X := hX P w K mg base fa cdv A outer s H E) (y := "_law_marks") FM hg (L2H.roomH_of (hr.mono (by decide))) z hf rfl mm km bm rfl (.inl rfl)) (pe_lcH (X := (hX P w K mg base fa cdv A outer s H E).suite a ((a, oe) :: pn)) (p := (a, oe)) (hot_of z hf) (List.mem_cons_self ..) sc_heard.nd (L2H.pi_range1H rfl mR (pa_cons pe_int pa_nil)) (show BlkOk ["_law_at", "_law_thing", "_law_e", "_law_spot"] (defScope s_heard) _ [("_law_spot", 3)] from blkOk_by (by decide +kernel))
        (fun s H C cl fp => pg_name sc_heard.nd (i := 3) rfl (.inl rfl)) (fun s H C cl fp => pts_nil) (fun s H C cl fp => pe_cmpR op_eq (pe_var (i := 3) rfl (.inl rfl)) (pe_var (i := 0) rfl (.inr (.inl rfl))) (nobehind _ (by decide) (by decide)))) (nobehind _ (by decide) (by decide)))
        (pw_or1 (pt_not (pt_val (pe_ve (X := hX P w K mg base fa cdv A outer s H E) N z hf rfl mi rfl mv rfl (.inl rfl)))))).pt (pss_one (ps_ret pe_bl)) pss_nil)
        (pss_one (ps_ret (pe_or (pe_cmpR op_gt (pe_var (i := 0) rfl (.inr (.inl rfl))) pe_int (nobehind _ (by decide) (by decide))) (pe_one (pe_cmpR op_eq (pe_callB (XG.repr_data hg hu2) rfl mp (by rfl) (pa_cons (pe_at (X := hX P w K mg base fa cdv A outer s H E) N z hf rfl (.inl rfl)) pa_nil)) (pe_callB (XG.repr_data hg hu2) rfl mp (by rfl) (pa_cons (pe_var (i := 1) rfl (.inl rfl)) pa_nil)) (nobehind _ (by decide) (by decide)))))))
        ) ?_
      rintro D σ H ⟨n, x, y, hn, rfl, hl, e0, e1, e2, dx, hat, dy, sh, q⟩
      refine ⟨n, hn, rfl, e2, dx, fun l1 H1 x1 n1 h1 => lc_val e0 hl fun l2 n2 => ?_⟩
      have ne : l1 ≠ l2 := fun z => by
        rw [z, n2] at h1
        cases h1
      have x2 : Ex H (upd H1 l2 (.lst ((marks n).map V.bl))) := x1.trans (Ex.new n2)
      generalize eH : upd H1 l2 (.lst ((marks n).map V.bl)) = H2 at x2 ⊢
      have g1 : H2 l1 = some (.lst ((marks n).map V.bl)) := by rw [← eH, upd_ne ne]; exact h1
      have g2 : H2 l2 = some (.lst ((marks n).map V.bl)) := by rw [← eH]; exact upd_same
      refine ⟨H2, .list ((marks n).map .bool), .list ((marks n).map .bool), .d (.bool false), Ex.refl _, ⟨l1, _, rfl, sq_of g1, dpa_bls _⟩, ⟨l2, _, rfl, sq_of g2, dpa_bls _⟩, ne_bls _, fun v hv => ?_⟩
      cases hv
      refine ⟨false, rfl, ?_⟩
      refine ⟨n, hn, rfl, e2, dx.up x2, true, rfl, ?_⟩
      refine ⟨.int n, e0, n, 10, rfl, rfl, decide ((10 : Int) < n), rfl, ?_⟩
      by_cases hb : 10 < n
      · rw [if_pos (by rw [decide_eq_true (by omega : (10 : Int) < n)])]
        exact q H2 x2
      · rw [if_neg (by rw [decide_eq_false (by omega : ¬ (10 : Int) < n)]; decide)]
        obtain ⟨dd, fs, ed, hdd, l⟩ := hat (by omega)
        refine ⟨n, hn, rfl, e2, dd, fs, x, ed, x2 _ _ hdd, l, x, y, rfl, dp_ex x2 _ _ dy, sh.1, sh.2.1, sh.2.2, x, e1, x, y, rfl, dp_ex x2 _ _ dy, sh.1, sh.2.1, sh.2.2, rfl, ?_⟩
        rw [decide_eq_true rfl]
        exact q H2 x2
    obtain ⟨B, Fr, H0, as, b, r, b', R, hl, e, q⟩ := h
    obtain ⟨n, y, rfl, hn, sh, rfl, rfl⟩ := heard_inv e
    obtain ⟨v0, z0, d0⟩ := R.sl 0 _ rfl
    obtain ⟨v1, z1, d1⟩ := R.sl 1 _ rfl
    obtain ⟨t1, t2, rfl⟩ : ∃ t1 t2, vs = [t1, t2] := by
      match vs, hl with
      | [t1, t2], _ => exact ⟨t1, t2, rfl⟩
    obtain rfl : t1 = v0 := Option.some.inj (Option.some.inj z0)
    obtain rfl : t2 = v1 := Option.some.inj (Option.some.inj z1)
    cases d0
    have fin : ∀ H', Ex H H' → Q (.bl true) H' := fun H' x => q _ H' H0 (Ex.refl _) (grown R x (.bl true))
    refine ⟨_, pss_cons (L2N.ps_try_as (X := hX P w K mg base fa cdv A outer s H E) (i := 2) rfl rfl sc_heard.nd rfl rfl ⟨rfl, by decide, .inl N.ms⟩ takesN
      (fun W pn xe tk _ => pss_one (ps_expr (pe_gS (X := (hX P w K mg base fa cdv A outer s H E).tr pn xe) FR hg hr rfl mr kr br (fun σ => L2N.passAt tk σ) (pa_cons (pe_var (i := 0) rfl (.inr (.inl rfl))) (pa_cons (pe_var (i := 1) rfl (.inl rfl)) pa_nil)))))
      (fun a oe cls d pn z hf => suite a oe cls d pn z hf)) (pss_one (ps_ret pe_bl)), ?_⟩
    refine ⟨.int (n : Int), rfl, t2, rfl, n, t2, hn, rfl, fun hb d nd => ?_, fun hb => ?_⟩
    · refine ⟨true, N.caught hn, fun _ a na => ?_, fun z => nomatch z⟩
      have x : Ex H (upd H d (.xd [("at", t2)])) := Ex.new nd
      exact ⟨n, t2, y, hn, rfl, rfl, rfl, rfl, rfl, .inr ⟨d, _, rfl, upd_same⟩, fun _ => ⟨d, _, rfl, upd_same, rfl⟩, dp_ex (R.e0.trans x) _ _ d1, sh, fun H' x' => fin H' (x.trans x')⟩
    · refine ⟨true, N.caught hn, fun _ a na => ?_, fun z => nomatch z⟩
      exact ⟨n, t2, y, hn, rfl, rfl, rfl, rfl, rfl, .inl rfl, fun z => absurd z (by omega), dp_ex R.e0 _ _ d1, sh, fun H' x' => fin H' x'⟩
end
end UH

set_option maxRecDepth 100000
set_option maxHeartbeats 4000000
namespace XN
open PySem PySem.Spec PyProof.Rows L2 Evl
open UH (topS f__law_heard)
def opStr : List PyData → Option PV
  | [.int i] => if i.natAbs < 2 ^ 100 then some (.d (.str (toString i))) else none
  | _ => none
theorem cr_str {X : Cx} : CallR X (.type "str") (rOfB X.K opStr) := by
  intro pins s σ H xs us Q I r ⟨H0, ds, z, e0, hd, e, out⟩
  unfold opStr at e
  split at e
  · rename_i i
    split at e
    · rename_i h
      obtain rfl := Option.some.inj e
      cases hd with
      | cons h t =>
        cases t
        obtain rfl := dq_int h
        refine call_str_int pins s σ H _ us Q I r ⟨_, rfl, ?_, out _ (.str _)⟩
        by_cases z : i.natAbs = 0
        · rw [z]
          decide
        · have := (Nat.log2_lt z).mpr (show i.natAbs < 2 ^ 100 by assumption)
          omega
    · cases e
  · cases e
abbrev s_law : Stmt := topS 19
theorem sc_law : FnScope ["_law_script", "_law_k", "_law_cell", "_law_things", "_law_at", "_law_thing"] ["_law_script"] (defScope s_law) := ⟨rfl, rfl, rfl, by decide +kernel, rfl, by decide +kernel, by decide +kernel⟩
noncomputable def g_law : DS :=
  (dSeq (dFor (dRng1 (dCons (dCB opMax (dCons (dC (.int 1)) (dCons (dCB opMin (dCons (dC (.int 4)) (dCons (dCB opLen (dCons (dV 0) dNil)) dNil))) dNil))) dNil)) (dName 1) (dSeq (dSet 2 (dIf (dTest (dOp opLt (dV 1) (dCB opLen (dCons (dV 0) dNil)))) (dOp opIx (dV 0) (dV 1)) (dC (.int 0))))
  (dSeq (dSet 3 (dLst (dCons (dOp opMod (dCB opInt (dCons (dV 2) dNil)) (dC (.int 1000000007))) (dCons (dOp opSub (dC (.int 0)) (dOp opMod (dCB opInt (dCons (dV 2) dNil)) (dC (.int 97)))) (dCons (dCB opStr (dCons (dOp opMod (dCB opInt (dCons (dV 2) dNil)) (dC (.int 1000))) dNil)) (dCons (dC .none) (dCons (dTup (dCons (dOp opMod (dCB opInt (dCons (dV 2) dNil)) (dC (.int 7))) (dCons (dC (.str "a")) dNil))) (dCons (dLst (dCons (dOp opMod (dCB opInt (dCons (dV 2) dNil)) (dC (.int 11))) dNil)) dNil))))))))
  (dFor (dRng1 (dCons (dC (.int 13)) dNil)) (dName 4) (dFor (dItems (dV 3)) (dName 5) (dIfS (dNot (dTest (dCall f__law_heard (dCons (dV 4) (dCons (dV 5) dNil))))) (dRet (dC (.bool false))) dNx))))))
  (dRet (dC (.bool true))))
noncomputable def f_law : DFun := defOf 5 g_law
theorem has_law {P : Program} {w : World} {K : PySem.W.Frag} {mg : Str → Option Value} {base : Heap} {fa : Addr} {fd : FuncData} (F : Fun K "law" "law" s_law fa fd) (hm : mg "law" = some (.ref fa)) (hb : Binds K fd ["_law_script"] []) (M : Bl mg) (h__law_heard : Has P w K mg base 4 "_law_heard" ["_law_at", "_law_thing"] f__law_heard)  : Has P w K mg base 5 "law" ["_law_script"] f_law :=
  has_def (g := g_law) F hm hb sc_law rfl fun cdv A outer s H E hg hr => by
    have hu0 : (A.deeper (envOfC "law" (defScope s_law) s.heap.objs.size fa cdv)).units + 200 < cLine := by have := hr.un; omega
    have hu1 : (A.deeper (envOfC "law" (defScope s_law) s.heap.objs.size fa cdv)).units + 100 < cLine := by omega
    have hu2 : (A.deeper (envOfC "law" (defScope s_law) s.heap.objs.size fa cdv)).units + 64 < cLine := by omega
    have hu : (A.deeper (envOfC "law" (defScope s_law) s.heap.objs.size fa cdv)).units + 65 < cLine := by omega
    exact ⟨_, (dss_cons (ds_for PassesOwn.never rfl (di_rng1 (by rfl) M.range (da_cons (de_cb (cr_max rfl) (by rfl) M.max (by decide +kernel) (da_cons de_int (da_cons (de_cb (cr_min rfl) (by rfl) M.min (by decide +kernel) (da_cons de_int (da_cons (de_cb cr_len (by rfl) M.len (by decide +kernel) (da_cons (de_v 0) da_nil)) da_nil))) da_nil))) da_nil)) (dg_name 1 sc_law.nd) (dss_cons (ds_set 2 sc_law.nd (de_if (dt_cmp or_lt (de_v 1) (de_cb cr_len (by rfl) M.len (by decide +kernel) (da_cons (de_v 0) da_nil))) (de_ix (de_v 0) (de_v 1)) de_int))
    (dss_cons (ds_set 3 sc_law.nd (de_lst (da_cons (de_bin or_mod (de_ct cr_int (by rfl) M.int_ (by decide +kernel) (da_cons (de_v 2) da_nil)) de_int) (da_cons (de_bin or_sub de_int (de_bin or_mod (de_ct cr_int (by rfl) M.int_ (by decide +kernel) (da_cons (de_v 2) da_nil)) de_int)) (da_cons (de_ct cr_str (by rfl) M.str_ (by decide +kernel) (da_cons (de_bin or_mod (de_ct cr_int (by rfl) M.int_ (by decide +kernel) (da_cons (de_v 2) da_nil)) de_int) da_nil)) (da_cons de_non (da_cons (de_tup (da_cons (de_bin or_mod (de_ct cr_int (by rfl) M.int_ (by decide +kernel) (da_cons (de_v 2) da_nil)) de_int) (da_cons de_str da_nil))) (da_cons (de_lst (da_cons (de_bin or_mod (de_ct cr_int (by rfl) M.int_ (by decide +kernel) (da_cons (de_v 2) da_nil)) de_int) da_nil)) da_nil))))))))
    (dss_one (ds_for PassesOwn.never rfl (di_rng1 (by rfl) M.range (da_cons de_int da_nil)) (dg_name 4 sc_law.nd) (dss_one (ds_for PassesOwn.never rfl (di_any (de_v 3)) (dg_name 5 sc_law.nd) (dss_one (ds_if (dt_not (dt_val (de_call h__law_heard hg (hr.mono (by decide)) (by rfl) (da_cons (de_v 4) (da_cons (de_v 5) da_nil))))) (dss_one (ds_ret de_bl)) dss_nil)))))))))
    (dss_one (ds_ret de_bl)))⟩
end XN

set_option maxRecDepth 100000
set_option maxHeartbeats 4000000
/-! k00: the law on data -/
namespace XN
open PySem PySem.Spec PyProof.Rows PySem.W L2 Evl
open UH (f__law_heard Shows)

theorem tuple_text_len (ts : List Str) : (tupleText ts).length ≤ piled ts + 3 := by
  have app : ∀ a b : Str, (a ++ b).length = a.length + b.length := fun a b => by
    show (a.cps ++ b.cps).size = _
    rw [Array.size_append]
    rfl
  unfold tupleText
  rw [app, app]
  have e1 : ((Str.ofString "(") : Str).length = 1 := rfl
  have e2 : (Str.ofString (if ts.length == 1 then ",)" else ")" : String)).length ≤ 2 := by
    split
    · exact Nat.le_refl 2
    · exact (by decide : 1 ≤ 2)
  cases ts with
  | nil =>
    have : (Str.join ", " ([] : List Str)).length = 0 := rfl
    omega
  | cons t ts =>
    have := join_length_add (t :: ts) (by simp)
    omega
theorem piled_le {ts : List Str} {k : Nat} (h : ∀ t ∈ ts, t.length ≤ k) : piled ts ≤ ts.length * (k + 2) := by
  induction ts with
  | nil => exact Nat.zero_le _
  | cons t ts ih =>
    have h1 := h t (List.mem_cons_self ..)
    have h2 := ih fun y m => h y (List.mem_cons_of_mem _ m)
    rw [piled_cons, List.length_cons, Nat.succ_mul]
    omega
theorem shownAll_map (xs : List PyData) : PyData.shownAll xs = xs.map PyData.shown := by
  induction xs with
  | nil => rw [PyData.shownAll]; rfl
  | cons x xs ih => rw [PyData.shownAll, ih]; rfl
theorem shown_tup (xs : List PyData) {k : Nat} (h : ∀ x ∈ xs, (PyData.shown x).length ≤ k) : (PyData.shown (.tuple xs)).length ≤ xs.length * (k + 2) + 3 := by
  rw [PyData.shown, shownAll_map]
  have h1 := tuple_text_len (xs.map PyData.shown)
  have h2 := piled_le (ts := xs.map PyData.shown) (k := k) fun t ht => by
    obtain ⟨x, hx, rfl⟩ := List.mem_map.mp ht
    exact h x hx
  rw [List.length_map] at h2
  omega

theorem list_text_len (ts : List Str) : (listText ts).length ≤ piled ts + 3 := by
  have h := listText_len_le ts
  have e : piled ts = (ts.map (·.length)).sum + 2 * ts.length := by
    induction ts with
    | nil => rfl
    | cons t ts ih =>
      rw [piled_cons, ih (listText_len_le ts), List.map_cons, List.sum_cons, List.length_cons]
      omega
  omega
theorem shown_lst (xs : List PyData) {k : Nat} (h : ∀ x ∈ xs, (PyData.shown x).length ≤ k) : (PyData.shown (.list xs)).length ≤ xs.length * (k + 2) + 3 := by
  rw [PyData.shown, shownAll_map]
  have h1 := list_text_len (xs.map PyData.shown)
  have h2 := piled_le (ts := xs.map PyData.shown) (k := k) fun t ht => by
    obtain ⟨x, hx, rfl⟩ := List.mem_map.mp ht
    exact h x hx
  rw [List.length_map] at h2
  omega
theorem able_int {i : Int} (h : i.natAbs < 2 ^ 100) : PyData.showable (.int i) = true := by
  rw [PyData.showable]
  refine decide_eq_true ?_
  by_cases z : i.natAbs = 0
  · rw [z]
    decide
  · have := (Nat.log2_lt z).mpr h
    omega
theorem shown_int {i : Int} (h : i.natAbs < 10 ^ 12) : (PyData.shown (.int i)).length ≤ 13 := PyData.shown_int_le h
theorem big : (10 : Nat) ^ 12 = 1000000000000 := by decide
theorem big2 : 1000000000000 < (2 : Nat) ^ 100 := by decide
theorem size_is : sizeLine = 16777216 := by decide
theorem sh_int {i : Int} (h : i.natAbs < 10 ^ 12) : Shows (.int i) := by
  refine ⟨able_int (by have := big; have := big2; omega), ?_, ?_⟩
  · rw [PyData.depth]
    decide
  · have := shown_int h
    rw [size_is]
    omega
theorem num_cps (i : Int) (h0 : 0 ≤ i) : ∀ c ∈ (Str.ofString (toString i)).cps.toList, c < 16 ^ 8 := by
  obtain ⟨m, rfl⟩ := Int.eq_ofNat_of_zero_le h0
  rw [PySem.W.KIN.signs_num]
  intro c hc
  obtain ⟨d, _, rfl⟩ := List.mem_map.mp hc
  exact d.val.toNat_lt
theorem sh_str {i : Int} (h0 : 0 ≤ i) (h : i < 1000) : Shows (.str (toString i)) := by
  refine ⟨by rw [PyData.showable], by rw [PyData.depth]; decide, ?_⟩
  have e := PySem.StrLaws.reprText_len (Str.ofString (toString i)) (num_cps i h0)
  have l : (Str.ofString (toString i)).length ≤ 3 := toString_length_le h0 (by decide) (by omega)
  rw [PyData.shown, size_is]
  omega
theorem sh_non : Shows .none := ⟨by rw [PyData.showable], by rw [PyData.depth]; decide, by rw [PyData.shown, size_is]; decide⟩
theorem sh_tup {i : Int} (h : i.natAbs < 10 ^ 12) : Shows (.tuple [.int i, .str "a"]) := by
  have a : (PyData.shown (.str "a")).length ≤ 13 := by
    rw [PyData.shown]
    decide +kernel
  have l := shown_tup [.int i, .str "a"] (k := 13) fun x hx => by
    rcases List.mem_cons.mp hx with rfl | hx
    · exact shown_int h
    · rcases List.mem_cons.mp hx with rfl | hx
      · exact a
      · cases hx
  refine ⟨?_, ?_, ?_⟩
  · rw [PyData.showable, PyData.showableAll, PyData.showableAll, PyData.showableAll, able_int (by have := big; have := big2; omega), PyData.showable]
    rfl
  · simp only [PyData.depth, PyData.depthAll]
    decide
  · rw [size_is]
    have e : ([.int i, .str "a"] : List PyData).length = 2 := rfl
    rw [e] at l
    omega
theorem sh_lst {i : Int} (h : i.natAbs < 10 ^ 12) : Shows (.list [.int i]) := by
  have l := shown_lst [.int i] (k := 13) fun x hx => by
    rcases List.mem_cons.mp hx with rfl | hx
    · exact shown_int h
    · cases hx
  refine ⟨?_, ?_, ?_⟩
  · rw [PyData.showable, PyData.showableAll, PyData.showableAll, able_int (by have := big; have := big2; omega)]
    rfl
  · simp only [PyData.depth, PyData.depthAll]
    decide
  · rw [size_is]
    have e : ([.int i] : List PyData).length = 1 := rfl
    rw [e] at l
    omega
/-! ### the law -/
theorem heard_is {n : Int} {y : PyData} {b : List Int} (h : 0 ≤ n ∧ n < 13) (hy : Shows y) : f__law_heard [.d (.int n), .d y] b = some (.d (.bool true), b) := by
  unfold f__law_heard
  exact if_pos ⟨h.1, h.2, hy⟩
def things (c : Int) : List PyData := [.int (c % 1000000007), .int (0 - c % 97), .str (toString (c % 1000)), .none, .tuple [.int (c % 7), .str "a"], .list [.int (c % 11)]]
theorem things_ok (c : Int) : ∀ x ∈ things c, Shows x := by
  have b := big
  intro x hx
  unfold things at hx
  simp only [List.mem_cons, List.not_mem_nil, or_false] at hx
  rcases hx with rfl | rfl | rfl | rfl | rfl | rfl
  · exact sh_int (by omega)
  · exact sh_int (by omega)
  · exact sh_str (by omega) (by omega)
  · exact sh_non
  · exact sh_tup (by omega)
  · exact sh_lst (by omega)
noncomputable def askBody : DS := dIfS (dNot (dTest (dCall f__law_heard (dCons (dV 4) (dCons (dV 5) dNil))))) (dRet (dC (.bool false))) dNx
theorem thing_loop {s0 s1 s2 s3 : Option SV} {n : Int} (hn : 0 ≤ n ∧ n < 13) : ∀ (ys : List PyData) (o : Option SV), (∀ y ∈ ys, Shows y) → ∃ o', forFold (dName 5) askBody ys ⟨[s0, s1, s2, s3, some (.d (.int n)), o], []⟩ = some (.nx, ⟨[s0, s1, s2, s3, some (.d (.int n)), o'], []⟩)
  | [], o, _ => ⟨o, rfl⟩
  | y :: ys, o, h => by
    obtain ⟨o', e⟩ := thing_loop (s0 := s0) (s1 := s1) (s2 := s2) (s3 := s3) hn ys (some (.d y)) fun z hz => h z (List.mem_cons_of_mem _ hz)
    refine ⟨o', ?_⟩
    have c5 : 5 < [s0, s1, s2, s3, some (SV.d (.int n)), o].length := by show 5 < 6; decide
    have e1 := heard_is (b := []) hn (h y (List.mem_cons_self ..))
    rw [for_cons]
    unfold askBody at e ⊢
    simp only [e_op4, e_op3, e_op2, e_op1, e_op, e_un2, e_un1, e_un, e_seq_nx, e_seq_rt, e_seq_bk, e_seq_ct, e_seq, e_nx, e_bk, e_ct, e_put, e_set1, e_set, e_drop1, e_drop, e_ret1, e_ret, e_retN, e_if_t, e_if_f, e_ifS, e_ifE, e_test1, e_test, e_not1, e_not, e_and_t, e_and_f, e_and, e_or_t, e_or_f, e_or, e_andV_t, e_andV_f, e_andV, e_orV_t, e_orV_f, e_orV, e_notV1, e_notV, e_nil, e_cons2, e_cons1, e_cons, e_tk2, e_tk1, e_tk0, e_tk, e_tup2, e_tup1, e_tup, e_lst2, e_lst1, e_lst, e_da1, e_da0, e_da, e_cb2, e_cb1, e_cb, e_v_d, e_v_o, e_v_b, e_v, e_c, e_h_d, e_h_f, e_h_s, e_h_b, e_at1, e_at, e_lm, e_d_d, e_d_f, e_d_s, e_d_b, e_ts, e_t_d, e_t_f, e_t_s, e_p_d, e_p_l, e_p_t, e_put_d, e_put_f, e_put_b, e_bx1, e_bx, e_ap2, e_ap1, e_ap0, e_apS, e_ap, e_arg2, e_arg1, e_arg0, e_arg_b, e_arg_d, e_arg_s, e_cl3, e_cl2, e_cl1, e_cl, e_rv_d, e_rv_o, e_rv_b, e_df2, e_df_r, e_df_n, e_df, e_om, e_r_d, e_r_f, e_r_s, e_r_b, e_ff_n, e_ff_c, e_ff_b, e_ff_r, e_fg, e_fr1, e_fr, e_nm, e_im, e_it2, e_it1, e_it, e_i_l, e_i_t, e_lc3, e_lc1, e_lc, e_io1, e_io, e_iv2, e_iv_d, e_iv_o, e_iv, e_ch6, e_ch5, e_ch4t, e_ch4f, e_ch3, e_ch2, e_ch1, e_ch, e_so_d, e_so_f, e_pr3, e_pr2, e_pr1, e_pr, e_sl4, e_sl3, e_sl2, e_sl1, e_sl, e_nop, e_pt1, e_pt, o_sl_l, o_sl_t, e_yes, e_wp, e_wp0, e_wp1, e_re0, e_re1, e_kd_d, e_kd_o, e_kd_b, e_kd_n, o_add_i, o_add_s, o_add_l, o_add_t, o_sub, o_mul, o_div, o_mod, o_pow, o_lt_i, o_lt_s, o_le_i, o_le_s, o_gt_i, o_ge_i, o_ix_l, o_ix_t, o_ixK, o_len_l, o_len_t, o_len_s, o_int_i, o_int_b, o_abs, o_max, o_min, o_lst_l, o_lst_t, o_tup_l, o_tup_t, List.map_cons, List.map_nil, List.append_nil, List.nil_append, List.cons_append, List.length_cons, List.length_nil, List.getElem?_cons_zero, List.getElem?_cons_succ, List.set_cons_zero, List.set_cons_succ, if_true, if_false, List.replicate_zero, List.replicate_succ, List.length_set, Bool.not_true, Bool.not_false, decide_true, decide_false, true_and, and_true, Nat.reduceAdd, Nat.reduceLT, Nat.reduceLeDiff, reduceIte, reduceCtorEq, c5, e1]
    exact e
noncomputable def rowBody : DS := dFor (dItems (dV 3)) (dName 5) askBody
theorem row_is {s0 s1 s2 o : Option SV} {n : Int} {ys : List PyData} (hn : 0 ≤ n ∧ n < 13) (hy : ∀ y ∈ ys, Shows y) : ∃ o', rowBody ⟨[s0, s1, s2, some (.d (.list ys)), some (.d (.int n)), o], []⟩ = some (.nx, ⟨[s0, s1, s2, some (.d (.list ys)), some (.d (.int n)), o'], []⟩) := by
  obtain ⟨o', e⟩ := thing_loop (s0 := s0) (s1 := s1) (s2 := s2) (s3 := some (.d (.list ys))) hn ys o hy
  refine ⟨o', ?_⟩
  unfold rowBody
  simp only [e_op4, e_op3, e_op2, e_op1, e_op, e_un2, e_un1, e_un, e_seq_nx, e_seq_rt, e_seq_bk, e_seq_ct, e_seq, e_nx, e_bk, e_ct, e_put, e_set1, e_set, e_drop1, e_drop, e_ret1, e_ret, e_retN, e_if_t, e_if_f, e_ifS, e_ifE, e_test1, e_test, e_not1, e_not, e_and_t, e_and_f, e_and, e_or_t, e_or_f, e_or, e_andV_t, e_andV_f, e_andV, e_orV_t, e_orV_f, e_orV, e_notV1, e_notV, e_nil, e_cons2, e_cons1, e_cons, e_tk2, e_tk1, e_tk0, e_tk, e_tup2, e_tup1, e_tup, e_lst2, e_lst1, e_lst, e_da1, e_da0, e_da, e_cb2, e_cb1, e_cb, e_v_d, e_v_o, e_v_b, e_v, e_c, e_h_d, e_h_f, e_h_s, e_h_b, e_at1, e_at, e_lm, e_d_d, e_d_f, e_d_s, e_d_b, e_ts, e_t_d, e_t_f, e_t_s, e_p_d, e_p_l, e_p_t, e_put_d, e_put_f, e_put_b, e_bx1, e_bx, e_ap2, e_ap1, e_ap0, e_apS, e_ap, e_arg2, e_arg1, e_arg0, e_arg_b, e_arg_d, e_arg_s, e_cl3, e_cl2, e_cl1, e_cl, e_rv_d, e_rv_o, e_rv_b, e_df2, e_df_r, e_df_n, e_df, e_om, e_r_d, e_r_f, e_r_s, e_r_b, e_ff_n, e_ff_c, e_ff_b, e_ff_r, e_fg, e_fr1, e_fr, e_nm, e_im, e_it2, e_it1, e_it, e_i_l, e_i_t, e_lc3, e_lc1, e_lc, e_io1, e_io, e_iv2, e_iv_d, e_iv_o, e_iv, e_ch6, e_ch5, e_ch4t, e_ch4f, e_ch3, e_ch2, e_ch1, e_ch, e_so_d, e_so_f, e_pr3, e_pr2, e_pr1, e_pr, e_sl4, e_sl3, e_sl2, e_sl1, e_sl, e_nop, e_pt1, e_pt, o_sl_l, o_sl_t, e_yes, e_wp, e_wp0, e_wp1, e_re0, e_re1, e_kd_d, e_kd_o, e_kd_b, e_kd_n, o_add_i, o_add_s, o_add_l, o_add_t, o_sub, o_mul, o_div, o_mod, o_pow, o_lt_i, o_lt_s, o_le_i, o_le_s, o_gt_i, o_ge_i, o_ix_l, o_ix_t, o_ixK, o_len_l, o_len_t, o_len_s, o_int_i, o_int_b, o_abs, o_max, o_min, o_lst_l, o_lst_t, o_tup_l, o_tup_t, List.map_cons, List.map_nil, List.append_nil, List.nil_append, List.cons_append, List.length_cons, List.length_nil, List.getElem?_cons_zero, List.getElem?_cons_succ, List.set_cons_zero, List.set_cons_succ, if_true, if_false, List.replicate_zero, List.replicate_succ, List.length_set, Bool.not_true, Bool.not_false, decide_true, decide_false, true_and, and_true, Nat.reduceAdd, Nat.reduceLT, Nat.reduceLeDiff, reduceIte, reduceCtorEq]
  exact e
theorem row_is0 {s0 s1 s2 o : Option SV} {n : Int} {ys : List PyData} (hn : 0 ≤ n ∧ n < 13) (hy : ∀ y ∈ ys, Shows y) : ∃ o', rowBody ⟨[s0, s1, s2, some (.own ys), some (.d (.int n)), o], []⟩ = some (.nx, ⟨[s0, s1, s2, some (.d (.list ys)), some (.d (.int n)), o'], []⟩) := by
  obtain ⟨o', e⟩ := thing_loop (s0 := s0) (s1 := s1) (s2 := s2) (s3 := some (.d (.list ys))) hn ys o hy
  refine ⟨o', ?_⟩
  unfold rowBody
  simp only [e_op4, e_op3, e_op2, e_op1, e_op, e_un2, e_un1, e_un, e_seq_nx, e_seq_rt, e_seq_bk, e_seq_ct, e_seq, e_nx, e_bk, e_ct, e_put, e_set1, e_set, e_drop1, e_drop, e_ret1, e_ret, e_retN, e_if_t, e_if_f, e_ifS, e_ifE, e_test1, e_test, e_not1, e_not, e_and_t, e_and_f, e_and, e_or_t, e_or_f, e_or, e_andV_t, e_andV_f, e_andV, e_orV_t, e_orV_f, e_orV, e_notV1, e_notV, e_nil, e_cons2, e_cons1, e_cons, e_tk2, e_tk1, e_tk0, e_tk, e_tup2, e_tup1, e_tup, e_lst2, e_lst1, e_lst, e_da1, e_da0, e_da, e_cb2, e_cb1, e_cb, e_v_d, e_v_o, e_v_b, e_v, e_c, e_h_d, e_h_f, e_h_s, e_h_b, e_at1, e_at, e_lm, e_d_d, e_d_f, e_d_s, e_d_b, e_ts, e_t_d, e_t_f, e_t_s, e_p_d, e_p_l, e_p_t, e_put_d, e_put_f, e_put_b, e_bx1, e_bx, e_ap2, e_ap1, e_ap0, e_apS, e_ap, e_arg2, e_arg1, e_arg0, e_arg_b, e_arg_d, e_arg_s, e_cl3, e_cl2, e_cl1, e_cl, e_rv_d, e_rv_o, e_rv_b, e_df2, e_df_r, e_df_n, e_df, e_om, e_r_d, e_r_f, e_r_s, e_r_b, e_ff_n, e_ff_c, e_ff_b, e_ff_r, e_fg, e_fr1, e_fr, e_nm, e_im, e_it2, e_it1, e_it, e_i_l, e_i_t, e_lc3, e_lc1, e_lc, e_io1, e_io, e_iv2, e_iv_d, e_iv_o, e_iv, e_ch6, e_ch5, e_ch4t, e_ch4f, e_ch3, e_ch2, e_ch1, e_ch, e_so_d, e_so_f, e_pr3, e_pr2, e_pr1, e_pr, e_sl4, e_sl3, e_sl2, e_sl1, e_sl, e_nop, e_pt1, e_pt, o_sl_l, o_sl_t, e_yes, e_wp, e_wp0, e_wp1, e_re0, e_re1, e_kd_d, e_kd_o, e_kd_b, e_kd_n, o_add_i, o_add_s, o_add_l, o_add_t, o_sub, o_mul, o_div, o_mod, o_pow, o_lt_i, o_lt_s, o_le_i, o_le_s, o_gt_i, o_ge_i, o_ix_l, o_ix_t, o_ixK, o_len_l, o_len_t, o_len_s, o_int_i, o_int_b, o_abs, o_max, o_min, o_lst_l, o_lst_t, o_tup_l, o_tup_t, List.map_cons, List.map_nil, List.append_nil, List.nil_append, List.cons_append, List.length_cons, List.length_nil, List.getElem?_cons_zero, List.getElem?_cons_succ, List.set_cons_zero, List.set_cons_succ, if_true, if_false, List.replicate_zero, List.replicate_succ, List.length_set, Bool.not_true, Bool.not_false, decide_true, decide_false, true_and, and_true, Nat.reduceAdd, Nat.reduceLT, Nat.reduceLeDiff, reduceIte, reduceCtorEq]
  exact e
theorem at_loop {s0 s1 s2 : Option SV} {ys : List PyData} (hy : ∀ y ∈ ys, Shows y) : ∀ (ns : List Int) (o4 o5 : Option SV), (∀ n ∈ ns, 0 ≤ n ∧ n < 13) → ∃ p4 p5, forFold (dName 4) rowBody (ns.map PyData.int) ⟨[s0, s1, s2, some (.d (.list ys)), o4, o5], []⟩ = some (.nx, ⟨[s0, s1, s2, some (.d (.list ys)), p4, p5], []⟩)
  | [], o4, o5, _ => ⟨o4, o5, rfl⟩
  | n :: ns, o4, o5, h => by
    obtain ⟨p, e1⟩ := row_is (s0 := s0) (s1 := s1) (s2 := s2) (o := o5) (h n (List.mem_cons_self ..)) hy
    obtain ⟨p4, p5, e2⟩ := at_loop (s0 := s0) (s1 := s1) (s2 := s2) hy ns (some (.d (.int n))) p fun m hm => h m (List.mem_cons_of_mem _ hm)
    refine ⟨p4, p5, ?_⟩
    have c4 : 4 < [s0, s1, s2, some (SV.d (.list ys)), o4, o5].length := by show 4 < 6; decide
    rw [List.map_cons, for_cons]
    simp only [e_op4, e_op3, e_op2, e_op1, e_op, e_un2, e_un1, e_un, e_seq_nx, e_seq_rt, e_seq_bk, e_seq_ct, e_seq, e_nx, e_bk, e_ct, e_put, e_set1, e_set, e_drop1, e_drop, e_ret1, e_ret, e_retN, e_if_t, e_if_f, e_ifS, e_ifE, e_test1, e_test, e_not1, e_not, e_and_t, e_and_f, e_and, e_or_t, e_or_f, e_or, e_andV_t, e_andV_f, e_andV, e_orV_t, e_orV_f, e_orV, e_notV1, e_notV, e_nil, e_cons2, e_cons1, e_cons, e_tk2, e_tk1, e_tk0, e_tk, e_tup2, e_tup1, e_tup, e_lst2, e_lst1, e_lst, e_da1, e_da0, e_da, e_cb2, e_cb1, e_cb, e_v_d, e_v_o, e_v_b, e_v, e_c, e_h_d, e_h_f, e_h_s, e_h_b, e_at1, e_at, e_lm, e_d_d, e_d_f, e_d_s, e_d_b, e_ts, e_t_d, e_t_f, e_t_s, e_p_d, e_p_l, e_p_t, e_put_d, e_put_f, e_put_b, e_bx1, e_bx, e_ap2, e_ap1, e_ap0, e_apS, e_ap, e_arg2, e_arg1, e_arg0, e_arg_b, e_arg_d, e_arg_s, e_cl3, e_cl2, e_cl1, e_cl, e_rv_d, e_rv_o, e_rv_b, e_df2, e_df_r, e_df_n, e_df, e_om, e_r_d, e_r_f, e_r_s, e_r_b, e_ff_n, e_ff_c, e_ff_b, e_ff_r, e_fg, e_fr1, e_fr, e_nm, e_im, e_it2, e_it1, e_it, e_i_l, e_i_t, e_lc3, e_lc1, e_lc, e_io1, e_io, e_iv2, e_iv_d, e_iv_o, e_iv, e_ch6, e_ch5, e_ch4t, e_ch4f, e_ch3, e_ch2, e_ch1, e_ch, e_so_d, e_so_f, e_pr3, e_pr2, e_pr1, e_pr, e_sl4, e_sl3, e_sl2, e_sl1, e_sl, e_nop, e_pt1, e_pt, o_sl_l, o_sl_t, e_yes, e_wp, e_wp0, e_wp1, e_re0, e_re1, e_kd_d, e_kd_o, e_kd_b, e_kd_n, o_add_i, o_add_s, o_add_l, o_add_t, o_sub, o_mul, o_div, o_mod, o_pow, o_lt_i, o_lt_s, o_le_i, o_le_s, o_gt_i, o_ge_i, o_ix_l, o_ix_t, o_ixK, o_len_l, o_len_t, o_len_s, o_int_i, o_int_b, o_abs, o_max, o_min, o_lst_l, o_lst_t, o_tup_l, o_tup_t, List.map_cons, List.map_nil, List.append_nil, List.nil_append, List.cons_append, List.length_cons, List.length_nil, List.getElem?_cons_zero, List.getElem?_cons_succ, List.set_cons_zero, List.set_cons_succ, if_true, if_false, List.replicate_zero, List.replicate_succ, List.length_set, Bool.not_true, Bool.not_false, decide_true, decide_false, true_and, and_true, Nat.reduceAdd, Nat.reduceLT, Nat.reduceLeDiff, reduceIte, reduceCtorEq, c4, e1]
    exact e2
theorem at_loop0 {s0 s1 s2 o4 o5 : Option SV} {ys : List PyData} (hy : ∀ y ∈ ys, Shows y) : ∃ p4 p5, forFold (dName 4) rowBody (rngI 0 13) ⟨[s0, s1, s2, some (.own ys), o4, o5], []⟩ = some (.nx, ⟨[s0, s1, s2, some (.d (.list ys)), p4, p5], []⟩) := by
  obtain ⟨p, e1⟩ := row_is0 (s0 := s0) (s1 := s1) (s2 := s2) (o := o5) (n := 0) (by decide) hy
  obtain ⟨p4, p5, e2⟩ := at_loop (s0 := s0) (s1 := s1) (s2 := s2) hy [1, 2, 3, 4, 5, 6, 7, 8, 9, 10, 11, 12] (some (.d (.int 0))) p (by decide)
  refine ⟨p4, p5, ?_⟩
  have c4 : 4 < [s0, s1, s2, some (SV.own ys), o4, o5].length := by show 4 < 6; decide
  show forFold (dName 4) rowBody (PyData.int 0 :: [1, 2, 3, 4, 5, 6, 7, 8, 9, 10, 11, 12].map PyData.int) _ = _
  rw [for_cons]
  simp only [e_op4, e_op3, e_op2, e_op1, e_op, e_un2, e_un1, e_un, e_seq_nx, e_seq_rt, e_seq_bk, e_seq_ct, e_seq, e_nx, e_bk, e_ct, e_put, e_set1, e_set, e_drop1, e_drop, e_ret1, e_ret, e_retN, e_if_t, e_if_f, e_ifS, e_ifE, e_test1, e_test, e_not1, e_not, e_and_t, e_and_f, e_and, e_or_t, e_or_f, e_or, e_andV_t, e_andV_f, e_andV, e_orV_t, e_orV_f, e_orV, e_notV1, e_notV, e_nil, e_cons2, e_cons1, e_cons, e_tk2, e_tk1, e_tk0, e_tk, e_tup2, e_tup1, e_tup, e_lst2, e_lst1, e_lst, e_da1, e_da0, e_da, e_cb2, e_cb1, e_cb, e_v_d, e_v_o, e_v_b, e_v, e_c, e_h_d, e_h_f, e_h_s, e_h_b, e_at1, e_at, e_lm, e_d_d, e_d_f, e_d_s, e_d_b, e_ts, e_t_d, e_t_f, e_t_s, e_p_d, e_p_l, e_p_t, e_put_d, e_put_f, e_put_b, e_bx1, e_bx, e_ap2, e_ap1, e_ap0, e_apS, e_ap, e_arg2, e_arg1, e_arg0, e_arg_b, e_arg_d, e_arg_s, e_cl3, e_cl2, e_cl1, e_cl, e_rv_d, e_rv_o, e_rv_b, e_df2, e_df_r, e_df_n, e_df, e_om, e_r_d, e_r_f, e_r_s, e_r_b, e_ff_n, e_ff_c, e_ff_b, e_ff_r, e_fg, e_fr1, e_fr, e_nm, e_im, e_it2, e_it1, e_it, e_i_l, e_i_t, e_lc3, e_lc1, e_lc, e_io1, e_io, e_iv2, e_iv_d, e_iv_o, e_iv, e_ch6, e_ch5, e_ch4t, e_ch4f, e_ch3, e_ch2, e_ch1, e_ch, e_so_d, e_so_f, e_pr3, e_pr2, e_pr1, e_pr, e_sl4, e_sl3, e_sl2, e_sl1, e_sl, e_nop, e_pt1, e_pt, o_sl_l, o_sl_t, e_yes, e_wp, e_wp0, e_wp1, e_re0, e_re1, e_kd_d, e_kd_o, e_kd_b, e_kd_n, o_add_i, o_add_s, o_add_l, o_add_t, o_sub, o_mul, o_div, o_mod, o_pow, o_lt_i, o_lt_s, o_le_i, o_le_s, o_gt_i, o_ge_i, o_ix_l, o_ix_t, o_ixK, o_len_l, o_len_t, o_len_s, o_int_i, o_int_b, o_abs, o_max, o_min, o_lst_l, o_lst_t, o_tup_l, o_tup_t, List.map_cons, List.map_nil, List.append_nil, List.nil_append, List.cons_append, List.length_cons, List.length_nil, List.getElem?_cons_zero, List.getElem?_cons_succ, List.set_cons_zero, List.set_cons_succ, if_true, if_false, List.replicate_zero, List.replicate_succ, List.length_set, Bool.not_true, Bool.not_false, decide_true, decide_false, true_and, and_true, Nat.reduceAdd, Nat.reduceLT, Nat.reduceLeDiff, reduceIte, reduceCtorEq, c4, e1]
  exact e2
noncomputable def lawBody : DS := dSeq (dSet 2 (dIf (dTest (dOp opLt (dV 1) (dCB opLen (dCons (dV 0) dNil)))) (dOp opIx (dV 0) (dV 1)) (dC (.int 0))))
  (dSeq (dSet 3 (dLst (dCons (dOp opMod (dCB opInt (dCons (dV 2) dNil)) (dC (.int 1000000007))) (dCons (dOp opSub (dC (.int 0)) (dOp opMod (dCB opInt (dCons (dV 2) dNil)) (dC (.int 97)))) (dCons (dCB opStr (dCons (dOp opMod (dCB opInt (dCons (dV 2) dNil)) (dC (.int 1000))) dNil)) (dCons (dC .none) (dCons (dTup (dCons (dOp opMod (dCB opInt (dCons (dV 2) dNil)) (dC (.int 7))) (dCons (dC (.str "a")) dNil))) (dCons (dLst (dCons (dOp opMod (dCB opInt (dCons (dV 2) dNil)) (dC (.int 11))) dNil)) dNil))))))))
  (dFor (dRng1 (dCons (dC (.int 13)) dNil)) (dName 4) rowBody))
theorem rng1_eq {fa : DA} {s s1 : SS} {n : Int} (h : fa s = some ([.d (.int n)], s1)) (hc : -1000000000 < n ∧ n < 1000000000) : dRng1 fa s = some (rngI 0 n.toNat, s1) := by
  unfold dRng1
  rw [h]
  exact if_pos hc
theorem ix_at {α : Type} (xs : List α) (k : Nat) (h : k < xs.length) : atI xs (k : Int) = some xs[k] := by
  have e : ixN xs.length (k : Int) = some k := by
    unfold ixN
    rw [if_pos (by omega)]
    simp
    exact h
  unfold atI
  rw [e]
  exact List.getElem?_eq_getElem h
theorem body_is {ns : List Int} {k : Nat} {o2 o3 o4 o5 : Option SV} (hl : ns.length < 1000) : ∃ p2 p3 p4 p5, lawBody ⟨[some (.d (.list (ns.map .int))), some (.d (.int (k : Int))), o2, o3, o4, o5], []⟩ = some (.nx, ⟨[some (.d (.list (ns.map .int))), some (.d (.int (k : Int))), p2, p3, p4, p5], []⟩) := by
  have key : ∀ c : Int, ∃ p4 p5, dSeq (dSet 3 (dLst (dCons (dOp opMod (dCB opInt (dCons (dV 2) dNil)) (dC (.int 1000000007))) (dCons (dOp opSub (dC (.int 0)) (dOp opMod (dCB opInt (dCons (dV 2) dNil)) (dC (.int 97)))) (dCons (dCB opStr (dCons (dOp opMod (dCB opInt (dCons (dV 2) dNil)) (dC (.int 1000))) dNil)) (dCons (dC .none) (dCons (dTup (dCons (dOp opMod (dCB opInt (dCons (dV 2) dNil)) (dC (.int 7))) (dCons (dC (.str "a")) dNil))) (dCons (dLst (dCons (dOp opMod (dCB opInt (dCons (dV 2) dNil)) (dC (.int 11))) dNil)) dNil))))))))
      (dFor (dRng1 (dCons (dC (.int 13)) dNil)) (dName 4) rowBody) ⟨[some (.d (.list (ns.map .int))), some (.d (.int (k : Int))), some (.d (.int c)), o3, o4, o5], []⟩ = some (.nx, ⟨[some (.d (.list (ns.map .int))), some (.d (.int (k : Int))), some (.d (.int c)), some (.d (.list (things c))), p4, p5], []⟩) := by
    intro c
    obtain ⟨p4, p5, e⟩ := at_loop0 (s0 := some (.d (.list (ns.map .int)))) (s1 := some (.d (.int (k : Int)))) (s2 := some (.d (.int c))) (o4 := o4) (o5 := o5) (things_ok c)
    refine ⟨p4, p5, ?_⟩
    have c3 : 3 < [some (SV.d (.list (ns.map .int))), some (SV.d (.int (k : Int))), some (SV.d (.int c)), o3, o4, o5].length := by show 3 < 6; decide
    have i0 : (if (0 : Int) < 1000000007 then some (PV.d (.int (c % 1000000007))) else none) = some (PV.d (.int (c % 1000000007))) := if_pos (by decide)
    have i1 : (if (0 : Int) < 97 then some (PV.d (.int (c % 97))) else none) = some (PV.d (.int (c % 97))) := if_pos (by decide)
    have i2 : (if (0 : Int) < 1000 then some (PV.d (.int (c % 1000))) else none) = some (PV.d (.int (c % 1000))) := if_pos (by decide)
    have i3 : (if (0 : Int) < 7 then some (PV.d (.int (c % 7))) else none) = some (PV.d (.int (c % 7))) := if_pos (by decide)
    have i4 : (if (0 : Int) < 11 then some (PV.d (.int (c % 11))) else none) = some (PV.d (.int (c % 11))) := if_pos (by decide)
    have st : opStr [.int (c % 1000)] = some (.d (.str (toString (c % 1000)))) := if_pos (by have := big; have := big2; omega)
    have r13 := rng1_eq (fa := dCons (dC (.int 13)) dNil) (s := ⟨[some (.d (.list (ns.map .int))), some (.d (.int (k : Int))), some (.d (.int c)), some (.own (things c)), o4, o5], []⟩) (s1 := ⟨[some (.d (.list (ns.map .int))), some (.d (.int (k : Int))), some (.d (.int c)), some (.own (things c)), o4, o5], []⟩) (n := 13) (by simp only [e_op4, e_op3, e_op2, e_op1, e_op, e_un2, e_un1, e_un, e_seq_nx, e_seq_rt, e_seq_bk, e_seq_ct, e_seq, e_nx, e_bk, e_ct, e_put, e_set1, e_set, e_drop1, e_drop, e_ret1, e_ret, e_retN, e_if_t, e_if_f, e_ifS, e_ifE, e_test1, e_test, e_not1, e_not, e_and_t, e_and_f, e_and, e_or_t, e_or_f, e_or, e_andV_t, e_andV_f, e_andV, e_orV_t, e_orV_f, e_orV, e_notV1, e_notV, e_nil, e_cons2, e_cons1, e_cons, e_tk2, e_tk1, e_tk0, e_tk, e_tup2, e_tup1, e_tup, e_lst2, e_lst1, e_lst, e_da1, e_da0, e_da, e_cb2, e_cb1, e_cb, e_v_d, e_v_o, e_v_b, e_v, e_c, e_h_d, e_h_f, e_h_s, e_h_b, e_at1, e_at, e_lm, e_d_d, e_d_f, e_d_s, e_d_b, e_ts, e_t_d, e_t_f, e_t_s, e_p_d, e_p_l, e_p_t, e_put_d, e_put_f, e_put_b, e_bx1, e_bx, e_ap2, e_ap1, e_ap0, e_apS, e_ap, e_arg2, e_arg1, e_arg0, e_arg_b, e_arg_d, e_arg_s, e_cl3, e_cl2, e_cl1, e_cl, e_rv_d, e_rv_o, e_rv_b, e_df2, e_df_r, e_df_n, e_df, e_om, e_r_d, e_r_f, e_r_s, e_r_b, e_ff_n, e_ff_c, e_ff_b, e_ff_r, e_fg, e_fr1, e_fr, e_nm, e_im, e_it2, e_it1, e_it, e_i_l, e_i_t, e_lc3, e_lc1, e_lc, e_io1, e_io, e_iv2, e_iv_d, e_iv_o, e_iv, e_ch6, e_ch5, e_ch4t, e_ch4f, e_ch3, e_ch2, e_ch1, e_ch, e_so_d, e_so_f, e_pr3, e_pr2, e_pr1, e_pr, e_sl4, e_sl3, e_sl2, e_sl1, e_sl, e_nop, e_pt1, e_pt, o_sl_l, o_sl_t, e_yes, e_wp, e_wp0, e_wp1, e_re0, e_re1, e_kd_d, e_kd_o, e_kd_b, e_kd_n, o_add_i, o_add_s, o_add_l, o_add_t, o_sub, o_mul, o_div, o_mod, o_pow, o_lt_i, o_lt_s, o_le_i, o_le_s, o_gt_i, o_ge_i, o_ix_l, o_ix_t, o_ixK, o_len_l, o_len_t, o_len_s, o_int_i, o_int_b, o_abs, o_max, o_min, o_lst_l, o_lst_t, o_tup_l, o_tup_t, List.map_cons, List.map_nil, List.append_nil, List.nil_append, List.cons_append, List.length_cons, List.length_nil, List.getElem?_cons_zero, List.getElem?_cons_succ, List.set_cons_zero, List.set_cons_succ, if_true, if_false, List.replicate_zero, List.replicate_succ, List.length_set, Bool.not_true, Bool.not_false, decide_true, decide_false, true_and, and_true, Nat.reduceAdd, Nat.reduceLT, Nat.reduceLeDiff, reduceIte, reduceCtorEq]) (by decide)
    have st3 : dSet 3 (dLst (dCons (dOp opMod (dCB opInt (dCons (dV 2) dNil)) (dC (.int 1000000007))) (dCons (dOp opSub (dC (.int 0)) (dOp opMod (dCB opInt (dCons (dV 2) dNil)) (dC (.int 97)))) (dCons (dCB opStr (dCons (dOp opMod (dCB opInt (dCons (dV 2) dNil)) (dC (.int 1000))) dNil)) (dCons (dC .none) (dCons (dTup (dCons (dOp opMod (dCB opInt (dCons (dV 2) dNil)) (dC (.int 7))) (dCons (dC (.str "a")) dNil))) (dCons (dLst (dCons (dOp opMod (dCB opInt (dCons (dV 2) dNil)) (dC (.int 11))) dNil)) dNil))))))) ⟨[some (.d (.list (ns.map .int))), some (.d (.int (k : Int))), some (.d (.int c)), o3, o4, o5], []⟩ = some (.nx, ⟨[some (.d (.list (ns.map .int))), some (.d (.int (k : Int))), some (.d (.int c)), some (.own (things c)), o4, o5], []⟩) := by
      simp only [e_op4, e_op3, e_op2, e_op1, e_op, e_un2, e_un1, e_un, e_seq_nx, e_seq_rt, e_seq_bk, e_seq_ct, e_seq, e_nx, e_bk, e_ct, e_put, e_set1, e_set, e_drop1, e_drop, e_ret1, e_ret, e_retN, e_if_t, e_if_f, e_ifS, e_ifE, e_test1, e_test, e_not1, e_not, e_and_t, e_and_f, e_and, e_or_t, e_or_f, e_or, e_andV_t, e_andV_f, e_andV, e_orV_t, e_orV_f, e_orV, e_notV1, e_notV, e_nil, e_cons2, e_cons1, e_cons, e_tk2, e_tk1, e_tk0, e_tk, e_tup2, e_tup1, e_tup, e_lst2, e_lst1, e_lst, e_da1, e_da0, e_da, e_cb2, e_cb1, e_cb, e_v_d, e_v_o, e_v_b, e_v, e_c, e_h_d, e_h_f, e_h_s, e_h_b, e_at1, e_at, e_lm, e_d_d, e_d_f, e_d_s, e_d_b, e_ts, e_t_d, e_t_f, e_t_s, e_p_d, e_p_l, e_p_t, e_put_d, e_put_f, e_put_b, e_bx1, e_bx, e_ap2, e_ap1, e_ap0, e_apS, e_ap, e_arg2, e_arg1, e_arg0, e_arg_b, e_arg_d, e_arg_s, e_cl3, e_cl2, e_cl1, e_cl, e_rv_d, e_rv_o, e_rv_b, e_df2, e_df_r, e_df_n, e_df, e_om, e_r_d, e_r_f, e_r_s, e_r_b, e_ff_n, e_ff_c, e_ff_b, e_ff_r, e_fg, e_fr1, e_fr, e_nm, e_im, e_it2, e_it1, e_it, e_i_l, e_i_t, e_lc3, e_lc1, e_lc, e_io1, e_io, e_iv2, e_iv_d, e_iv_o, e_iv, e_ch6, e_ch5, e_ch4t, e_ch4f, e_ch3, e_ch2, e_ch1, e_ch, e_so_d, e_so_f, e_pr3, e_pr2, e_pr1, e_pr, e_sl4, e_sl3, e_sl2, e_sl1, e_sl, e_nop, e_pt1, e_pt, o_sl_l, o_sl_t, e_yes, e_wp, e_wp0, e_wp1, e_re0, e_re1, e_kd_d, e_kd_o, e_kd_b, e_kd_n, o_add_i, o_add_s, o_add_l, o_add_t, o_sub, o_mul, o_div, o_mod, o_pow, o_lt_i, o_lt_s, o_le_i, o_le_s, o_gt_i, o_ge_i, o_ix_l, o_ix_t, o_ixK, o_len_l, o_len_t, o_len_s, o_int_i, o_int_b, o_abs, o_max, o_min, o_lst_l, o_lst_t, o_tup_l, o_tup_t, List.map_cons, List.map_nil, List.append_nil, List.nil_append, List.cons_append, List.length_cons, List.length_nil, List.getElem?_cons_zero, List.getElem?_cons_succ, List.set_cons_zero, List.set_cons_succ, if_true, if_false, List.replicate_zero, List.replicate_succ, List.length_set, Bool.not_true, Bool.not_false, decide_true, decide_false, true_and, and_true, Nat.reduceAdd, Nat.reduceLT, Nat.reduceLeDiff, reduceIte, reduceCtorEq, c3, st, i0, i1, i2, i3, i4]
      rfl
    rw [e_seq, st3, e_seq_nx, e_fr, r13, e_fr1]
    exact e
  have c2 : 2 < [some (SV.d (.list (ns.map .int))), some (SV.d (.int (k : Int))), o2, o3, o4, o5].length := by show 2 < 6; decide
  have ln : (ns.map PyData.int).length = ns.length := List.length_map _
  unfold lawBody
  by_cases hk : k < ns.length
  · obtain ⟨p4, p5, e⟩ := key ns[k]
    have lt : ((k : Int) < ((ns.map PyData.int).length : Nat)) := by rw [ln]; omega
    have ix : atI (ns.map PyData.int) (k : Int) = some (.int ns[k]) := by
      rw [ix_at _ _ (by rw [ln]; exact hk), List.getElem_map]
    refine ⟨some (.d (.int ns[k])), some (.d (.list (things ns[k]))), p4, p5, ?_⟩
    rw [e_seq]
    simp only [e_op4, e_op3, e_op2, e_op1, e_op, e_un2, e_un1, e_un, e_seq_nx, e_seq_rt, e_seq_bk, e_seq_ct, e_seq, e_nx, e_bk, e_ct, e_put, e_set1, e_set, e_drop1, e_drop, e_ret1, e_ret, e_retN, e_if_t, e_if_f, e_ifS, e_ifE, e_test1, e_test, e_not1, e_not, e_and_t, e_and_f, e_and, e_or_t, e_or_f, e_or, e_andV_t, e_andV_f, e_andV, e_orV_t, e_orV_f, e_orV, e_notV1, e_notV, e_nil, e_cons2, e_cons1, e_cons, e_tk2, e_tk1, e_tk0, e_tk, e_tup2, e_tup1, e_tup, e_lst2, e_lst1, e_lst, e_da1, e_da0, e_da, e_cb2, e_cb1, e_cb, e_v_d, e_v_o, e_v_b, e_v, e_c, e_h_d, e_h_f, e_h_s, e_h_b, e_at1, e_at, e_lm, e_d_d, e_d_f, e_d_s, e_d_b, e_ts, e_t_d, e_t_f, e_t_s, e_p_d, e_p_l, e_p_t, e_put_d, e_put_f, e_put_b, e_bx1, e_bx, e_ap2, e_ap1, e_ap0, e_apS, e_ap, e_arg2, e_arg1, e_arg0, e_arg_b, e_arg_d, e_arg_s, e_cl3, e_cl2, e_cl1, e_cl, e_rv_d, e_rv_o, e_rv_b, e_df2, e_df_r, e_df_n, e_df, e_om, e_r_d, e_r_f, e_r_s, e_r_b, e_ff_n, e_ff_c, e_ff_b, e_ff_r, e_fg, e_fr1, e_fr, e_nm, e_im, e_it2, e_it1, e_it, e_i_l, e_i_t, e_lc3, e_lc1, e_lc, e_io1, e_io, e_iv2, e_iv_d, e_iv_o, e_iv, e_ch6, e_ch5, e_ch4t, e_ch4f, e_ch3, e_ch2, e_ch1, e_ch, e_so_d, e_so_f, e_pr3, e_pr2, e_pr1, e_pr, e_sl4, e_sl3, e_sl2, e_sl1, e_sl, e_nop, e_pt1, e_pt, o_sl_l, o_sl_t, e_yes, e_wp, e_wp0, e_wp1, e_re0, e_re1, e_kd_d, e_kd_o, e_kd_b, e_kd_n, o_add_i, o_add_s, o_add_l, o_add_t, o_sub, o_mul, o_div, o_mod, o_pow, o_lt_i, o_lt_s, o_le_i, o_le_s, o_gt_i, o_ge_i, o_ix_l, o_ix_t, o_ixK, o_len_l, o_len_t, o_len_s, o_int_i, o_int_b, o_abs, o_max, o_min, o_lst_l, o_lst_t, o_tup_l, o_tup_t, List.map_cons, List.map_nil, List.append_nil, List.nil_append, List.cons_append, List.length_cons, List.length_nil, List.getElem?_cons_zero, List.getElem?_cons_succ, List.set_cons_zero, List.set_cons_succ, if_true, if_false, List.replicate_zero, List.replicate_succ, List.length_set, Bool.not_true, Bool.not_false, decide_true, decide_false, true_and, and_true, Nat.reduceAdd, Nat.reduceLT, Nat.reduceLeDiff, reduceIte, reduceCtorEq, c2, lt, decide_true, ix]
    exact e
  · obtain ⟨p4, p5, e⟩ := key 0
    have lt : ¬ ((k : Int) < ((ns.map PyData.int).length : Nat)) := by rw [ln]; omega
    refine ⟨some (.d (.int 0)), some (.d (.list (things 0))), p4, p5, ?_⟩
    rw [e_seq]
    simp only [e_op4, e_op3, e_op2, e_op1, e_op, e_un2, e_un1, e_un, e_seq_nx, e_seq_rt, e_seq_bk, e_seq_ct, e_seq, e_nx, e_bk, e_ct, e_put, e_set1, e_set, e_drop1, e_drop, e_ret1, e_ret, e_retN, e_if_t, e_if_f, e_ifS, e_ifE, e_test1, e_test, e_not1, e_not, e_and_t, e_and_f, e_and, e_or_t, e_or_f, e_or, e_andV_t, e_andV_f, e_andV, e_orV_t, e_orV_f, e_orV, e_notV1, e_notV, e_nil, e_cons2, e_cons1, e_cons, e_tk2, e_tk1, e_tk0, e_tk, e_tup2, e_tup1, e_tup, e_lst2, e_lst1, e_lst, e_da1, e_da0, e_da, e_cb2, e_cb1, e_cb, e_v_d, e_v_o, e_v_b, e_v, e_c, e_h_d, e_h_f, e_h_s, e_h_b, e_at1, e_at, e_lm, e_d_d, e_d_f, e_d_s, e_d_b, e_ts, e_t_d, e_t_f, e_t_s, e_p_d, e_p_l, e_p_t, e_put_d, e_put_f, e_put_b, e_bx1, e_bx, e_ap2, e_ap1, e_ap0, e_apS, e_ap, e_arg2, e_arg1, e_arg0, e_arg_b, e_arg_d, e_arg_s, e_cl3, e_cl2, e_cl1, e_cl, e_rv_d, e_rv_o, e_rv_b, e_df2, e_df_r, e_df_n, e_df, e_om, e_r_d, e_r_f, e_r_s, e_r_b, e_ff_n, e_ff_c, e_ff_b, e_ff_r, e_fg, e_fr1, e_fr, e_nm, e_im, e_it2, e_it1, e_it, e_i_l, e_i_t, e_lc3, e_lc1, e_lc, e_io1, e_io, e_iv2, e_iv_d, e_iv_o, e_iv, e_ch6, e_ch5, e_ch4t, e_ch4f, e_ch3, e_ch2, e_ch1, e_ch, e_so_d, e_so_f, e_pr3, e_pr2, e_pr1, e_pr, e_sl4, e_sl3, e_sl2, e_sl1, e_sl, e_nop, e_pt1, e_pt, o_sl_l, o_sl_t, e_yes, e_wp, e_wp0, e_wp1, e_re0, e_re1, e_kd_d, e_kd_o, e_kd_b, e_kd_n, o_add_i, o_add_s, o_add_l, o_add_t, o_sub, o_mul, o_div, o_mod, o_pow, o_lt_i, o_lt_s, o_le_i, o_le_s, o_gt_i, o_ge_i, o_ix_l, o_ix_t, o_ixK, o_len_l, o_len_t, o_len_s, o_int_i, o_int_b, o_abs, o_max, o_min, o_lst_l, o_lst_t, o_tup_l, o_tup_t, List.map_cons, List.map_nil, List.append_nil, List.nil_append, List.cons_append, List.length_cons, List.length_nil, List.getElem?_cons_zero, List.getElem?_cons_succ, List.set_cons_zero, List.set_cons_succ, if_true, if_false, List.replicate_zero, List.replicate_succ, List.length_set, Bool.not_true, Bool.not_false, decide_true, decide_false, true_and, and_true, Nat.reduceAdd, Nat.reduceLT, Nat.reduceLeDiff, reduceIte, reduceCtorEq, c2, lt, decide_false]
    exact e
theorem k_loop {ns : List Int} (hl : ns.length < 1000) : ∀ (ks : List Nat) (o1 o2 o3 o4 o5 : Option SV), ∃ s,
    forFold (dName 1) lawBody (ks.map fun (k : Nat) => PyData.int (k : Int)) ⟨[some (.d (.list (ns.map .int))), o1, o2, o3, o4, o5], []⟩ = some (.nx, ⟨s, []⟩)
  | [], o1, o2, o3, o4, o5 => ⟨_, rfl⟩
  | k :: ks, o1, o2, o3, o4, o5 => by
    obtain ⟨p2, p3, p4, p5, e1⟩ := body_is (ns := ns) (k := k) (o2 := o2) (o3 := o3) (o4 := o4) (o5 := o5) hl
    obtain ⟨s, e2⟩ := k_loop hl ks (some (.d (.int (k : Int)))) p2 p3 p4 p5
    refine ⟨s, ?_⟩
    have c1 : 1 < [some (SV.d (.list (ns.map .int))), o1, o2, o3, o4, o5].length := by show 1 < 6; decide
    rw [List.map_cons, for_cons]
    simp only [e_op4, e_op3, e_op2, e_op1, e_op, e_un2, e_un1, e_un, e_seq_nx, e_seq_rt, e_seq_bk, e_seq_ct, e_seq, e_nx, e_bk, e_ct, e_put, e_set1, e_set, e_drop1, e_drop, e_ret1, e_ret, e_retN, e_if_t, e_if_f, e_ifS, e_ifE, e_test1, e_test, e_not1, e_not, e_and_t, e_and_f, e_and, e_or_t, e_or_f, e_or, e_andV_t, e_andV_f, e_andV, e_orV_t, e_orV_f, e_orV, e_notV1, e_notV, e_nil, e_cons2, e_cons1, e_cons, e_tk2, e_tk1, e_tk0, e_tk, e_tup2, e_tup1, e_tup, e_lst2, e_lst1, e_lst, e_da1, e_da0, e_da, e_cb2, e_cb1, e_cb, e_v_d, e_v_o, e_v_b, e_v, e_c, e_h_d, e_h_f, e_h_s, e_h_b, e_at1, e_at, e_lm, e_d_d, e_d_f, e_d_s, e_d_b, e_ts, e_t_d, e_t_f, e_t_s, e_p_d, e_p_l, e_p_t, e_put_d, e_put_f, e_put_b, e_bx1, e_bx, e_ap2, e_ap1, e_ap0, e_apS, e_ap, e_arg2, e_arg1, e_arg0, e_arg_b, e_arg_d, e_arg_s, e_cl3, e_cl2, e_cl1, e_cl, e_rv_d, e_rv_o, e_rv_b, e_df2, e_df_r, e_df_n, e_df, e_om, e_r_d, e_r_f, e_r_s, e_r_b, e_ff_n, e_ff_c, e_ff_b, e_ff_r, e_fg, e_fr1, e_fr, e_nm, e_im, e_it2, e_it1, e_it, e_i_l, e_i_t, e_lc3, e_lc1, e_lc, e_io1, e_io, e_iv2, e_iv_d, e_iv_o, e_iv, e_ch6, e_ch5, e_ch4t, e_ch4f, e_ch3, e_ch2, e_ch1, e_ch, e_so_d, e_so_f, e_pr3, e_pr2, e_pr1, e_pr, e_sl4, e_sl3, e_sl2, e_sl1, e_sl, e_nop, e_pt1, e_pt, o_sl_l, o_sl_t, e_yes, e_wp, e_wp0, e_wp1, e_re0, e_re1, e_kd_d, e_kd_o, e_kd_b, e_kd_n, o_add_i, o_add_s, o_add_l, o_add_t, o_sub, o_mul, o_div, o_mod, o_pow, o_lt_i, o_lt_s, o_le_i, o_le_s, o_gt_i, o_ge_i, o_ix_l, o_ix_t, o_ixK, o_len_l, o_len_t, o_len_s, o_int_i, o_int_b, o_abs, o_max, o_min, o_lst_l, o_lst_t, o_tup_l, o_tup_t, List.map_cons, List.map_nil, List.append_nil, List.nil_append, List.cons_append, List.length_cons, List.length_nil, List.getElem?_cons_zero, List.getElem?_cons_succ, List.set_cons_zero, List.set_cons_succ, if_true, if_false, List.replicate_zero, List.replicate_succ, List.length_set, Bool.not_true, Bool.not_false, decide_true, decide_false, true_and, and_true, Nat.reduceAdd, Nat.reduceLT, Nat.reduceLeDiff, reduceIte, reduceCtorEq, c1, e1]
    exact e2
theorem law_is {ns : List Int} (hl : ns.length < 1000) : f_law [.d (.list (ns.map .int))] [] = some (.d (.bool true), []) := by
  have eg : g_law = dSeq (dFor (dRng1 (dCons (dCB opMax (dCons (dC (.int 1)) (dCons (dCB opMin (dCons (dC (.int 4)) (dCons (dCB opLen (dCons (dV 0) dNil)) dNil))) dNil))) dNil)) (dName 1) lawBody) (dRet (dC (.bool true))) := rfl
  have ln : (ns.map PyData.int).length = ns.length := List.length_map _
  obtain ⟨n, hn⟩ : ∃ n : Int, dRng1 (dCons (dCB opMax (dCons (dC (.int 1)) (dCons (dCB opMin (dCons (dC (.int 4)) (dCons (dCB opLen (dCons (dV 0) dNil)) dNil))) dNil))) dNil) ⟨[some (.d (.list (ns.map .int))), none, none, none, none, none], []⟩ = some (rngI 0 n.toNat, ⟨[some (.d (.list (ns.map .int))), none, none, none, none, none], []⟩) := by
    refine ⟨if (if (((ns.map PyData.int).length : Nat) : Int) < 4 then (((ns.map PyData.int).length : Nat) : Int) else 4) > 1 then (if (((ns.map PyData.int).length : Nat) : Int) < 4 then (((ns.map PyData.int).length : Nat) : Int) else 4) else 1, rng1_eq (by simp only [e_op4, e_op3, e_op2, e_op1, e_op, e_un2, e_un1, e_un, e_seq_nx, e_seq_rt, e_seq_bk, e_seq_ct, e_seq, e_nx, e_bk, e_ct, e_put, e_set1, e_set, e_drop1, e_drop, e_ret1, e_ret, e_retN, e_if_t, e_if_f, e_ifS, e_ifE, e_test1, e_test, e_not1, e_not, e_and_t, e_and_f, e_and, e_or_t, e_or_f, e_or, e_andV_t, e_andV_f, e_andV, e_orV_t, e_orV_f, e_orV, e_notV1, e_notV, e_nil, e_cons2, e_cons1, e_cons, e_tk2, e_tk1, e_tk0, e_tk, e_tup2, e_tup1, e_tup, e_lst2, e_lst1, e_lst, e_da1, e_da0, e_da, e_cb2, e_cb1, e_cb, e_v_d, e_v_o, e_v_b, e_v, e_c, e_h_d, e_h_f, e_h_s, e_h_b, e_at1, e_at, e_lm, e_d_d, e_d_f, e_d_s, e_d_b, e_ts, e_t_d, e_t_f, e_t_s, e_p_d, e_p_l, e_p_t, e_put_d, e_put_f, e_put_b, e_bx1, e_bx, e_ap2, e_ap1, e_ap0, e_apS, e_ap, e_arg2, e_arg1, e_arg0, e_arg_b, e_arg_d, e_arg_s, e_cl3, e_cl2, e_cl1, e_cl, e_rv_d, e_rv_o, e_rv_b, e_df2, e_df_r, e_df_n, e_df, e_om, e_r_d, e_r_f, e_r_s, e_r_b, e_ff_n, e_ff_c, e_ff_b, e_ff_r, e_fg, e_fr1, e_fr, e_nm, e_im, e_it2, e_it1, e_it, e_i_l, e_i_t, e_lc3, e_lc1, e_lc, e_io1, e_io, e_iv2, e_iv_d, e_iv_o, e_iv, e_ch6, e_ch5, e_ch4t, e_ch4f, e_ch3, e_ch2, e_ch1, e_ch, e_so_d, e_so_f, e_pr3, e_pr2, e_pr1, e_pr, e_sl4, e_sl3, e_sl2, e_sl1, e_sl, e_nop, e_pt1, e_pt, o_sl_l, o_sl_t, e_yes, e_wp, e_wp0, e_wp1, e_re0, e_re1, e_kd_d, e_kd_o, e_kd_b, e_kd_n, o_add_i, o_add_s, o_add_l, o_add_t, o_sub, o_mul, o_div, o_mod, o_pow, o_lt_i, o_lt_s, o_le_i, o_le_s, o_gt_i, o_ge_i, o_ix_l, o_ix_t, o_ixK, o_len_l, o_len_t, o_len_s, o_int_i, o_int_b, o_abs, o_max, o_min, o_lst_l, o_lst_t, o_tup_l, o_tup_t, List.map_cons, List.map_nil, List.append_nil, List.nil_append, List.cons_append, List.length_cons, List.length_nil, List.getElem?_cons_zero, List.getElem?_cons_succ, List.set_cons_zero, List.set_cons_succ, if_true, if_false, List.replicate_zero, List.replicate_succ, List.length_set, Bool.not_true, Bool.not_false, decide_true, decide_false, true_and, and_true, Nat.reduceAdd, Nat.reduceLT, Nat.reduceLeDiff, reduceIte, reduceCtorEq]) ?_⟩
    rw [ln]
    split <;> split <;> omega
  obtain ⟨s, e⟩ := k_loop (ns := ns) hl (List.range n.toNat) none none none none none
  have er : rngI 0 n.toNat = (List.range n.toNat).map fun (k : Nat) => PyData.int (k : Int) := by
    show (List.range n.toNat).map (fun (i : Nat) => PyData.int (0 + (i : Int))) = _
    congr 1
    funext i
    rw [Int.zero_add]
  have e' : forFold (dName 1) lawBody (rngI 0 n.toNat) ⟨[some (.d (.list (ns.map .int))), none, none, none, none, none], []⟩ = some (.nx, ⟨s, []⟩) := by rw [er]; exact e
  have st : defOf 5 g_law [.d (.list (ns.map .int))] [] = dfK (g_law ⟨[some (.d (.list (ns.map .int))), none, none, none, none, none], []⟩) := rfl
  unfold f_law
  rw [st, eg, e_seq, e_fr, hn, e_fr1, e', e_seq_nx, e_ret, e_c, e_ret1, e_df_r]
  rfl
end XN

set_option maxRecDepth 100000
set_option maxHeartbeats 4000000
namespace UH
open PySem PySem.Spec PyProof.Rows L2 Evl
def cAt (cs : List Addr) (i : Nat) : Addr := cs.getD i 0
section
variable {K : PySem.W.Frag} {mg : Str → Option Value} {S c0 c1 c2 c3 c4 c5 c6 c7 c8 c9 c10 c11 c12 : Addr}
theorem kn_of (nd : [c0, c1, c2, c3, c4, c5, c6, c7, c8, c9, c10, c11, c12, S].Nodup) (ms : mg "StopError" = some (.ref S)) (m0 : mg "InvalidServices" = some (.ref c0)) (m1 : mg "InvalidRule" = some (.ref c1)) (m2 : mg "InvalidText" = some (.ref c2)) (m3 : mg "InvalidState" = some (.ref c3)) (m4 : mg "NotAllowed" = some (.ref c4)) (m5 : mg "InvalidPlan" = some (.ref c5)) (m6 : mg "InvalidBatches" = some (.ref c6)) (m7 : mg "InvalidPrices" = some (.ref c7)) (m8 : mg "InvalidQuestion" = some (.ref c8)) (m9 : mg "InvalidCost" = some (.ref c9)) (m10 : mg "Refused" = some (.ref c10)) (m11 : mg "NotBendable" = some (.ref c11)) (m12 : mg "InvalidCommand" = some (.ref c12)) (T0 : ExcAt K S c0) (T1 : ExcAt K S c1) (T2 : ExcAt K S c2) (T3 : ExcAt K S c3) (T4 : ExcAt K S c4) (T5 : ExcAt K S c5) (T6 : ExcAt K S c6) (T7 : ExcAt K S c7) (T8 : ExcAt K S c8) (T9 : ExcAt K S c9) (T10 : ExcAt K S c10) (T11 : ExcAt K S c11) (T12 : ExcAt K S c12)
    (sE : PySem.W.subIn K (.ref S) (.type "BaseException") = some true) (sD : PySem.W.hasDictIn K S = true) (sT : PySem.W.typeIn K (.ref S) = some (.type "type")) (xk : XcK K) : KN K mg S (cAt [c0, c1, c2, c3, c4, c5, c6, c7, c8, c9, c10, c11, c12]) where
  mn := fun i hi => match i, hi with
    | 0, _ => m0
    | 1, _ => m1
    | 2, _ => m2
    | 3, _ => m3
    | 4, _ => m4
    | 5, _ => m5
    | 6, _ => m6
    | 7, _ => m7
    | 8, _ => m8
    | 9, _ => m9
    | 10, _ => m10
    | 11, _ => m11
    | 12, _ => m12
  ms := ms
  cl := fun i hi => match i, hi with
    | 0, _ => T0
    | 1, _ => T1
    | 2, _ => T2
    | 3, _ => T3
    | 4, _ => T4
    | 5, _ => T5
    | 6, _ => T6
    | 7, _ => T7
    | 8, _ => T8
    | 9, _ => T9
    | 10, _ => T10
    | 11, _ => T11
    | 12, _ => T12
  ne := fun i hi j hj e => by
    have n1 : [c0, c1, c2, c3, c4, c5, c6, c7, c8, c9, c10, c11, c12].Nodup := nd.sublist (List.sublist_append_left [c0, c1, c2, c3, c4, c5, c6, c7, c8, c9, c10, c11, c12] [S])
    have e1 : cAt [c0, c1, c2, c3, c4, c5, c6, c7, c8, c9, c10, c11, c12] i = [c0, c1, c2, c3, c4, c5, c6, c7, c8, c9, c10, c11, c12][i]'hi := by
      unfold cAt
      rw [List.getD_eq_getElem?_getD, List.getElem?_eq_getElem (h := hi)]
      rfl
    have e2 : cAt [c0, c1, c2, c3, c4, c5, c6, c7, c8, c9, c10, c11, c12] j = [c0, c1, c2, c3, c4, c5, c6, c7, c8, c9, c10, c11, c12][j]'hj := by
      unfold cAt
      rw [List.getD_eq_getElem?_getD, List.getElem?_eq_getElem (h := hj)]
      rfl
    rw [e1, e2] at e
    have pw := List.pairwise_iff_getElem.mp n1
    rcases Nat.lt_trichotomy i j with z | z | z
    · exact absurd e (pw i j hi hj z)
    · exact z
    · exact absurd e.symm (pw j i hj hi z)
  nS := fun i hi e => by
    have n2 := (List.nodup_append.mp (show ([c0, c1, c2, c3, c4, c5, c6, c7, c8, c9, c10, c11, c12] ++ [S]).Nodup from nd)).2.2
    have e1 : cAt [c0, c1, c2, c3, c4, c5, c6, c7, c8, c9, c10, c11, c12] i = [c0, c1, c2, c3, c4, c5, c6, c7, c8, c9, c10, c11, c12][i]'hi := by
      unfold cAt
      rw [List.getD_eq_getElem?_getD, List.getElem?_eq_getElem (h := hi)]
      rfl
    exact n2 _ (List.getElem_mem hi) S (List.mem_singleton.mpr rfl) (e1.symm.trans e)
  sE := sE
  sD := sD
  sT := sT
  xk := xk
theorem kr_of {P : Program} {w : World} {base : Heap} (E0 : HasEx P w K mg base "InvalidServices" c0) (E1 : HasEx P w K mg base "InvalidRule" c1) (E2 : HasEx P w K mg base "InvalidText" c2) (E3 : HasEx P w K mg base "InvalidState" c3) (E4 : HasEx P w K mg base "NotAllowed" c4) (E5 : HasEx P w K mg base "InvalidPlan" c5) (E6 : HasEx P w K mg base "InvalidBatches" c6) (E7 : HasEx P w K mg base "InvalidPrices" c7) (E8 : HasEx P w K mg base "InvalidQuestion" c8) (E9 : HasEx P w K mg base "InvalidCost" c9) (E10 : HasEx P w K mg base "Refused" c10) (Z11 : HasE0 K mg "NotBendable" c11) (Z12 : HasE0 K mg "InvalidCommand" c12) : KR P w K mg base (cAt [c0, c1, c2, c3, c4, c5, c6, c7, c8, c9, c10, c11, c12]) where
  h := fun i hi => match i, hi with
    | 0, _ => E0
    | 1, _ => E1
    | 2, _ => E2
    | 3, _ => E3
    | 4, _ => E4
    | 5, _ => E5
    | 6, _ => E6
    | 7, _ => E7
    | 8, _ => E8
    | 9, _ => E9
    | 10, _ => E10
  z := fun i hi => by
    rcases hi with rfl | rfl
    · exact Z11
    · exact Z12
end
end UH
namespace XN
open PySem PySem.Spec PyProof.Rows L2 Evl
open UH (topS f__law_heard)
theorem run_law {P : Program} {w : World} {K : PySem.W.Frag} {mg : Str → Option Value} {base : Heap} {fa : Addr} {fd : FuncData} (F : Fun K "law" "law" s_law fa fd) (M : Bl mg) (h__law_heard : Has P w K mg base 4 "_law_heard" ["_law_at", "_law_thing"] f__law_heard)  : XG.FnG P w K mg base CX0 5 fa fd ["_law_script"] (spD K 1 f_law) :=
  fng_def (g := g_law) F sc_law rfl fun cdv A outer s H E hg hr => by
    have hu0 : (A.deeper (envOfC "law" (defScope s_law) s.heap.objs.size fa cdv)).units + 200 < cLine := by have := hr.un; omega
    have hu1 : (A.deeper (envOfC "law" (defScope s_law) s.heap.objs.size fa cdv)).units + 100 < cLine := by omega
    have hu2 : (A.deeper (envOfC "law" (defScope s_law) s.heap.objs.size fa cdv)).units + 64 < cLine := by omega
    have hu : (A.deeper (envOfC "law" (defScope s_law) s.heap.objs.size fa cdv)).units + 65 < cLine := by omega
    exact ⟨_, (dss_cons (ds_for PassesOwn.never rfl (di_rng1 (by rfl) M.range (da_cons (de_cb (cr_max rfl) (by rfl) M.max (by decide +kernel) (da_cons de_int (da_cons (de_cb (cr_min rfl) (by rfl) M.min (by decide +kernel) (da_cons de_int (da_cons (de_cb cr_len (by rfl) M.len (by decide +kernel) (da_cons (de_v 0) da_nil)) da_nil))) da_nil))) da_nil)) (dg_name 1 sc_law.nd) (dss_cons (ds_set 2 sc_law.nd (de_if (dt_cmp or_lt (de_v 1) (de_cb cr_len (by rfl) M.len (by decide +kernel) (da_cons (de_v 0) da_nil))) (de_ix (de_v 0) (de_v 1)) de_int))
    (dss_cons (ds_set 3 sc_law.nd (de_lst (da_cons (de_bin or_mod (de_ct cr_int (by rfl) M.int_ (by decide +kernel) (da_cons (de_v 2) da_nil)) de_int) (da_cons (de_bin or_sub de_int (de_bin or_mod (de_ct cr_int (by rfl) M.int_ (by decide +kernel) (da_cons (de_v 2) da_nil)) de_int)) (da_cons (de_ct cr_str (by rfl) M.str_ (by decide +kernel) (da_cons (de_bin or_mod (de_ct cr_int (by rfl) M.int_ (by decide +kernel) (da_cons (de_v 2) da_nil)) de_int) da_nil)) (da_cons de_non (da_cons (de_tup (da_cons (de_bin or_mod (de_ct cr_int (by rfl) M.int_ (by decide +kernel) (da_cons (de_v 2) da_nil)) de_int) (da_cons de_str da_nil))) (da_cons (de_lst (da_cons (de_bin or_mod (de_ct cr_int (by rfl) M.int_ (by decide +kernel) (da_cons (de_v 2) da_nil)) de_int) da_nil)) da_nil))))))))
    (dss_one (ds_for PassesOwn.never rfl (di_rng1 (by rfl) M.range (da_cons de_int da_nil)) (dg_name 4 sc_law.nd) (dss_one (ds_for PassesOwn.never rfl (di_any (de_v 3)) (dg_name 5 sc_law.nd) (dss_one (ds_if (dt_not (dt_val (de_call h__law_heard hg (hr.mono (by decide)) (by rfl) (da_cons (de_v 4) (da_cons (de_v 5) da_nil))))) (dss_one (ds_ret de_bl)) dss_nil)))))))))
    (dss_one (ds_ret de_bl)))⟩

theorem all_mk {l : PySem.W.OpenLaw} {w : World} {K : PySem.W.Frag} {h : Heap} {mg : Str → Option Value} {fa : Addr}
    {S : Addr} {c0 c1 c2 c3 c4 c5 c6 c7 c8 c9 c10 c11 c12 : Addr}
    {cn0 cq0 : Str} {cN0 : Addr} {cb0 cs0 : List Value} {ct0 : List Str} {ca0 : Bool} {co0 : Option Bool} {cd0 : Option Addr} {u0 v0 x0 y0 z0 : Option Value}
    {cn1 cq1 : Str} {cN1 : Addr} {cb1 cs1 : List Value} {ct1 : List Str} {ca1 : Bool} {co1 : Option Bool} {cd1 : Option Addr} {u1 v1 x1 y1 z1 : Option Value}
    {cn2 cq2 : Str} {cN2 : Addr} {cb2 cs2 : List Value} {ct2 : List Str} {ca2 : Bool} {co2 : Option Bool} {cd2 : Option Addr} {u2 v2 x2 y2 z2 : Option Value}
    {cn3 cq3 : Str} {cN3 : Addr} {cb3 cs3 : List Value} {ct3 : List Str} {ca3 : Bool} {co3 : Option Bool} {cd3 : Option Addr} {u3 v3 x3 y3 z3 : Option Value}
    {cn4 cq4 : Str} {cN4 : Addr} {cb4 cs4 : List Value} {ct4 : List Str} {ca4 : Bool} {co4 : Option Bool} {cd4 : Option Addr} {u4 v4 x4 y4 z4 : Option Value}
    {cn5 cq5 : Str} {cN5 : Addr} {cb5 cs5 : List Value} {ct5 : List Str} {ca5 : Bool} {co5 : Option Bool} {cd5 : Option Addr} {u5 v5 x5 y5 z5 : Option Value}
    {cn6 cq6 : Str} {cN6 : Addr} {cb6 cs6 : List Value} {ct6 : List Str} {ca6 : Bool} {co6 : Option Bool} {cd6 : Option Addr} {u6 v6 x6 y6 z6 : Option Value}
    {cn7 cq7 : Str} {cN7 : Addr} {cb7 cs7 : List Value} {ct7 : List Str} {ca7 : Bool} {co7 : Option Bool} {cd7 : Option Addr} {u7 v7 x7 y7 z7 : Option Value}
    {cn8 cq8 : Str} {cN8 : Addr} {cb8 cs8 : List Value} {ct8 : List Str} {ca8 : Bool} {co8 : Option Bool} {cd8 : Option Addr} {u8 v8 x8 y8 z8 : Option Value}
    {cn9 cq9 : Str} {cN9 : Addr} {cb9 cs9 : List Value} {ct9 : List Str} {ca9 : Bool} {co9 : Option Bool} {cd9 : Option Addr} {u9 v9 x9 y9 z9 : Option Value}
    {cn10 cq10 : Str} {cN10 : Addr} {cb10 cs10 : List Value} {ct10 : List Str} {ca10 : Bool} {co10 : Option Bool} {cd10 : Option Addr} {u10 v10 x10 y10 z10 : Option Value}
    {cn11 cq11 : Str} {cN11 : Addr} {cb11 cs11 : List Value} {ct11 : List Str} {ca11 : Bool} {co11 : Option Bool} {cd11 : Option Addr} {u11 v11 x11 y11 z11 : Option Value}
    {cn12 cq12 : Str} {cN12 : Addr} {cb12 cs12 : List Value} {ct12 : List Str} {ca12 : Bool} {co12 : Option Bool} {cd12 : Option Addr} {u12 v12 x12 y12 z12 : Option Value}
    {gi0 : Addr} {odi0 ani0 : Option Addr} {sli0 : Array (Option Value)} {oci0 kVi0 dci0 pmi0 gci0 gti0 : Value}
    {gi1 : Addr} {odi1 ani1 : Option Addr} {sli1 : Array (Option Value)} {oci1 kVi1 dci1 pmi1 gci1 gti1 : Value}
    {gi2 : Addr} {odi2 ani2 : Option Addr} {sli2 : Array (Option Value)} {oci2 kVi2 dci2 pmi2 gci2 gti2 : Value}
    {gi3 : Addr} {odi3 ani3 : Option Addr} {sli3 : Array (Option Value)} {oci3 kVi3 dci3 pmi3 gci3 gti3 : Value}
    {gi4 : Addr} {odi4 ani4 : Option Addr} {sli4 : Array (Option Value)} {oci4 kVi4 dci4 pmi4 gci4 gti4 : Value}
    {gi5 : Addr} {odi5 ani5 : Option Addr} {sli5 : Array (Option Value)} {oci5 kVi5 dci5 pmi5 gci5 gti5 : Value}
    {gi6 : Addr} {odi6 ani6 : Option Addr} {sli6 : Array (Option Value)} {oci6 kVi6 dci6 pmi6 gci6 gti6 : Value}
    {gi7 : Addr} {odi7 ani7 : Option Addr} {sli7 : Array (Option Value)} {oci7 kVi7 dci7 pmi7 gci7 gti7 : Value}
    {gi8 : Addr} {odi8 ani8 : Option Addr} {sli8 : Array (Option Value)} {oci8 kVi8 dci8 pmi8 gci8 gti8 : Value}
    {gi9 : Addr} {odi9 ani9 : Option Addr} {sli9 : Array (Option Value)} {oci9 kVi9 dci9 pmi9 gci9 gti9 : Value}
    {gi10 : Addr} {odi10 ani10 : Option Addr} {sli10 : Array (Option Value)} {oci10 kVi10 dci10 pmi10 gci10 gti10 : Value}
    {gd16 : Addr} {odd16 and16 : Option Addr} {sld16 : Array (Option Value)} {ocd16 kVd16 dcd16 pmd16 gcd16 gtd16 : Value}
    {gd17 : Addr} {odd17 and17 : Option Addr} {sld17 : Array (Option Value)} {ocd17 kVd17 dcd17 pmd17 gcd17 gtd17 : Value}
    {gd18 : Addr} {odd18 and18 : Option Addr} {sld18 : Array (Option Value)} {ocd18 kVd18 dcd18 pmd18 gcd18 gtd18 : Value}
    {gd19 : Addr} {odd19 and19 : Option Addr} {sld19 : Array (Option Value)} {ocd19 kVd19 dcd19 pmd19 gcd19 gtd19 : Value} (X : K.In h) (G : h.Ns mainGlobals mg) (hfa : mg "law" = some (.ref fa))
    (aS : PySem.W.nsIn K mainGlobals "StopError" = some (some (.ref S)))
    (a0 : PySem.W.nsIn K mainGlobals "InvalidServices" = some (some (.ref c0)))
    (l0 : K.lookup c0 = some (excClassObj cn0 cq0 c0 cN0 cb0 [.ref S, .type "ValueError", .type "Exception", .type "BaseException", .type "object"] true ct0 cs0 ca0 co0 cd0 u0 v0 x0 y0 z0 "ValueError.__new__"))
    (sa0 : PySem.W.findIn K (.ref c0) "__setattr__" = some (some (.builtin "object.__setattr__")))
    (ga0 : PySem.W.findIn K (.ref c0) "__getattribute__" = some (some (.builtin "BaseException.__getattribute__")))
    (gg0 : PySem.W.findIn K (.ref c0) "__getattr__" = some none)
    (cl0 : PySem.W.findIn K (.ref c0) "__class__" = some (some (.builtin "object.__class__")))
    (fa0 : PySem.W.findIn K (.ref c0) "at" = some none)
    (hd0 : PySem.W.hasDictIn K c0 = true)
    (kp0 : PySem.W.keepIn K (.ref c0) = true)
    (a1 : PySem.W.nsIn K mainGlobals "InvalidRule" = some (some (.ref c1)))
    (l1 : K.lookup c1 = some (excClassObj cn1 cq1 c1 cN1 cb1 [.ref S, .type "ValueError", .type "Exception", .type "BaseException", .type "object"] true ct1 cs1 ca1 co1 cd1 u1 v1 x1 y1 z1 "ValueError.__new__"))
    (sa1 : PySem.W.findIn K (.ref c1) "__setattr__" = some (some (.builtin "object.__setattr__")))
    (ga1 : PySem.W.findIn K (.ref c1) "__getattribute__" = some (some (.builtin "BaseException.__getattribute__")))
    (gg1 : PySem.W.findIn K (.ref c1) "__getattr__" = some none)
    (cl1 : PySem.W.findIn K (.ref c1) "__class__" = some (some (.builtin "object.__class__")))
    (fa1 : PySem.W.findIn K (.ref c1) "at" = some none)
    (hd1 : PySem.W.hasDictIn K c1 = true)
    (kp1 : PySem.W.keepIn K (.ref c1) = true)
    (a2 : PySem.W.nsIn K mainGlobals "InvalidText" = some (some (.ref c2)))
    (l2 : K.lookup c2 = some (excClassObj cn2 cq2 c2 cN2 cb2 [.ref S, .type "ValueError", .type "Exception", .type "BaseException", .type "object"] true ct2 cs2 ca2 co2 cd2 u2 v2 x2 y2 z2 "ValueError.__new__"))
    (sa2 : PySem.W.findIn K (.ref c2) "__setattr__" = some (some (.builtin "object.__setattr__")))
    (ga2 : PySem.W.findIn K (.ref c2) "__getattribute__" = some (some (.builtin "BaseException.__getattribute__")))
    (gg2 : PySem.W.findIn K (.ref c2) "__getattr__" = some none)
    (cl2 : PySem.W.findIn K (.ref c2) "__class__" = some (some (.builtin "object.__class__")))
    (fa2 : PySem.W.findIn K (.ref c2) "at" = some none)
    (hd2 : PySem.W.hasDictIn K c2 = true)
    (kp2 : PySem.W.keepIn K (.ref c2) = true)
    (a3 : PySem.W.nsIn K mainGlobals "InvalidState" = some (some (.ref c3)))
    (l3 : K.lookup c3 = some (excClassObj cn3 cq3 c3 cN3 cb3 [.ref S, .type "ValueError", .type "Exception", .type "BaseException", .type "object"] true ct3 cs3 ca3 co3 cd3 u3 v3 x3 y3 z3 "ValueError.__new__"))
    (sa3 : PySem.W.findIn K (.ref c3) "__setattr__" = some (some (.builtin "object.__setattr__")))
    (ga3 : PySem.W.findIn K (.ref c3) "__getattribute__" = some (some (.builtin "BaseException.__getattribute__")))
    (gg3 : PySem.W.findIn K (.ref c3) "__getattr__" = some none)
    (cl3 : PySem.W.findIn K (.ref c3) "__class__" = some (some (.builtin "object.__class__")))
    (fa3 : PySem.W.findIn K (.ref c3) "at" = some none)
    (hd3 : PySem.W.hasDictIn K c3 = true)
    (kp3 : PySem.W.keepIn K (.ref c3) = true)
    (a4 : PySem.W.nsIn K mainGlobals "NotAllowed" = some (some (.ref c4)))
    (l4 : K.lookup c4 = some (excClassObj cn4 cq4 c4 cN4 cb4 [.ref S, .type "ValueError", .type "Exception", .type "BaseException", .type "object"] true ct4 cs4 ca4 co4 cd4 u4 v4 x4 y4 z4 "ValueError.__new__"))
    (sa4 : PySem.W.findIn K (.ref c4) "__setattr__" = some (some (.builtin "object.__setattr__")))
    (ga4 : PySem.W.findIn K (.ref c4) "__getattribute__" = some (some (.builtin "BaseException.__getattribute__")))
    (gg4 : PySem.W.findIn K (.ref c4) "__getattr__" = some none)
    (cl4 : PySem.W.findIn K (.ref c4) "__class__" = some (some (.builtin "object.__class__")))
    (fa4 : PySem.W.findIn K (.ref c4) "at" = some none)
    (hd4 : PySem.W.hasDictIn K c4 = true)
    (kp4 : PySem.W.keepIn K (.ref c4) = true)
    (a5 : PySem.W.nsIn K mainGlobals "InvalidPlan" = some (some (.ref c5)))
    (l5 : K.lookup c5 = some (excClassObj cn5 cq5 c5 cN5 cb5 [.ref S, .type "ValueError", .type "Exception", .type "BaseException", .type "object"] true ct5 cs5 ca5 co5 cd5 u5 v5 x5 y5 z5 "ValueError.__new__"))
    (sa5 : PySem.W.findIn K (.ref c5) "__setattr__" = some (some (.builtin "object.__setattr__")))
    (ga5 : PySem.W.findIn K (.ref c5) "__getattribute__" = some (some (.builtin "BaseException.__getattribute__")))
    (gg5 : PySem.W.findIn K (.ref c5) "__getattr__" = some none)
    (cl5 : PySem.W.findIn K (.ref c5) "__class__" = some (some (.builtin "object.__class__")))
    (fa5 : PySem.W.findIn K (.ref c5) "at" = some none)
    (hd5 : PySem.W.hasDictIn K c5 = true)
    (kp5 : PySem.W.keepIn K (.ref c5) = true)
    (a6 : PySem.W.nsIn K mainGlobals "InvalidBatches" = some (some (.ref c6)))
    (l6 : K.lookup c6 = some (excClassObj cn6 cq6 c6 cN6 cb6 [.ref S, .type "ValueError", .type "Exception", .type "BaseException", .type "object"] true ct6 cs6 ca6 co6 cd6 u6 v6 x6 y6 z6 "ValueError.__new__"))
    (sa6 : PySem.W.findIn K (.ref c6) "__setattr__" = some (some (.builtin "object.__setattr__")))
    (ga6 : PySem.W.findIn K (.ref c6) "__getattribute__" = some (some (.builtin "BaseException.__getattribute__")))
    (gg6 : PySem.W.findIn K (.ref c6) "__getattr__" = some none)
    (cl6 : PySem.W.findIn K (.ref c6) "__class__" = some (some (.builtin "object.__class__")))
    (fa6 : PySem.W.findIn K (.ref c6) "at" = some none)
    (hd6 : PySem.W.hasDictIn K c6 = true)
    (kp6 : PySem.W.keepIn K (.ref c6) = true)
    (a7 : PySem.W.nsIn K mainGlobals "InvalidPrices" = some (some (.ref c7)))
    (l7 : K.lookup c7 = some (excClassObj cn7 cq7 c7 cN7 cb7 [.ref S, .type "ValueError", .type "Exception", .type "BaseException", .type "object"] true ct7 cs7 ca7 co7 cd7 u7 v7 x7 y7 z7 "ValueError.__new__"))
    (sa7 : PySem.W.findIn K (.ref c7) "__setattr__" = some (some (.builtin "object.__setattr__")))
    (ga7 : PySem.W.findIn K (.ref c7) "__getattribute__" = some (some (.builtin "BaseException.__getattribute__")))
    (gg7 : PySem.W.findIn K (.ref c7) "__getattr__" = some none)
    (cl7 : PySem.W.findIn K (.ref c7) "__class__" = some (some (.builtin "object.__class__")))
    (fa7 : PySem.W.findIn K (.ref c7) "at" = some none)
    (hd7 : PySem.W.hasDictIn K c7 = true)
    (kp7 : PySem.W.keepIn K (.ref c7) = true)
    (a8 : PySem.W.nsIn K mainGlobals "InvalidQuestion" = some (some (.ref c8)))
    (l8 : K.lookup c8 = some (excClassObj cn8 cq8 c8 cN8 cb8 [.ref S, .type "ValueError", .type "Exception", .type "BaseException", .type "object"] true ct8 cs8 ca8 co8 cd8 u8 v8 x8 y8 z8 "ValueError.__new__"))
    (sa8 : PySem.W.findIn K (.ref c8) "__setattr__" = some (some (.builtin "object.__setattr__")))
    (ga8 : PySem.W.findIn K (.ref c8) "__getattribute__" = some (some (.builtin "BaseException.__getattribute__")))
    (gg8 : PySem.W.findIn K (.ref c8) "__getattr__" = some none)
    (cl8 : PySem.W.findIn K (.ref c8) "__class__" = some (some (.builtin "object.__class__")))
    (fa8 : PySem.W.findIn K (.ref c8) "at" = some none)
    (hd8 : PySem.W.hasDictIn K c8 = true)
    (kp8 : PySem.W.keepIn K (.ref c8) = true)
    (a9 : PySem.W.nsIn K mainGlobals "InvalidCost" = some (some (.ref c9)))
    (l9 : K.lookup c9 = some (excClassObj cn9 cq9 c9 cN9 cb9 [.ref S, .type "ValueError", .type "Exception", .type "BaseException", .type "object"] true ct9 cs9 ca9 co9 cd9 u9 v9 x9 y9 z9 "ValueError.__new__"))
    (sa9 : PySem.W.findIn K (.ref c9) "__setattr__" = some (some (.builtin "object.__setattr__")))
    (ga9 : PySem.W.findIn K (.ref c9) "__getattribute__" = some (some (.builtin "BaseException.__getattribute__")))
    (gg9 : PySem.W.findIn K (.ref c9) "__getattr__" = some none)
    (cl9 : PySem.W.findIn K (.ref c9) "__class__" = some (some (.builtin "object.__class__")))
    (fa9 : PySem.W.findIn K (.ref c9) "at" = some none)
    (hd9 : PySem.W.hasDictIn K c9 = true)
    (kp9 : PySem.W.keepIn K (.ref c9) = true)
    (a10 : PySem.W.nsIn K mainGlobals "Refused" = some (some (.ref c10)))
    (l10 : K.lookup c10 = some (excClassObj cn10 cq10 c10 cN10 cb10 [.ref S, .type "ValueError", .type "Exception", .type "BaseException", .type "object"] true ct10 cs10 ca10 co10 cd10 u10 v10 x10 y10 z10 "ValueError.__new__"))
    (sa10 : PySem.W.findIn K (.ref c10) "__setattr__" = some (some (.builtin "object.__setattr__")))
    (ga10 : PySem.W.findIn K (.ref c10) "__getattribute__" = some (some (.builtin "BaseException.__getattribute__")))
    (gg10 : PySem.W.findIn K (.ref c10) "__getattr__" = some none)
    (cl10 : PySem.W.findIn K (.ref c10) "__class__" = some (some (.builtin "object.__class__")))
    (fa10 : PySem.W.findIn K (.ref c10) "at" = some none)
    (hd10 : PySem.W.hasDictIn K c10 = true)
    (kp10 : PySem.W.keepIn K (.ref c10) = true)
    (a11 : PySem.W.nsIn K mainGlobals "NotBendable" = some (some (.ref c11)))
    (l11 : K.lookup c11 = some (excClassObj cn11 cq11 c11 cN11 cb11 [.ref S, .type "ValueError", .type "Exception", .type "BaseException", .type "object"] true ct11 cs11 ca11 co11 cd11 u11 v11 x11 y11 z11 "ValueError.__new__"))
    (sa11 : PySem.W.findIn K (.ref c11) "__setattr__" = some (some (.builtin "object.__setattr__")))
    (ga11 : PySem.W.findIn K (.ref c11) "__getattribute__" = some (some (.builtin "BaseException.__getattribute__")))
    (gg11 : PySem.W.findIn K (.ref c11) "__getattr__" = some none)
    (cl11 : PySem.W.findIn K (.ref c11) "__class__" = some (some (.builtin "object.__class__")))
    (fa11 : PySem.W.findIn K (.ref c11) "at" = some none)
    (hd11 : PySem.W.hasDictIn K c11 = true)
    (kp11 : PySem.W.keepIn K (.ref c11) = true)
    (a12 : PySem.W.nsIn K mainGlobals "InvalidCommand" = some (some (.ref c12)))
    (l12 : K.lookup c12 = some (excClassObj cn12 cq12 c12 cN12 cb12 [.ref S, .type "ValueError", .type "Exception", .type "BaseException", .type "object"] true ct12 cs12 ca12 co12 cd12 u12 v12 x12 y12 z12 "ValueError.__new__"))
    (sa12 : PySem.W.findIn K (.ref c12) "__setattr__" = some (some (.builtin "object.__setattr__")))
    (ga12 : PySem.W.findIn K (.ref c12) "__getattribute__" = some (some (.builtin "BaseException.__getattribute__")))
    (gg12 : PySem.W.findIn K (.ref c12) "__getattr__" = some none)
    (cl12 : PySem.W.findIn K (.ref c12) "__class__" = some (some (.builtin "object.__class__")))
    (fa12 : PySem.W.findIn K (.ref c12) "at" = some none)
    (hd12 : PySem.W.hasDictIn K c12 = true)
    (kp12 : PySem.W.keepIn K (.ref c12) = true)
    (iC0 : PySem.W.findIn K (.ref c0) "__init__" = some (some (.ref gi0)))
    (tI0 : PySem.W.typeIn K (.ref gi0) = some (.type "function"))
    (fli0 : K.lookup gi0 = some ⟨oci0, odi0, .func (PySem.W.fnOf "__init__" "InvalidServices.__init__" (defArgs (inClass (topS 2) 0)) (defBody (inClass (topS 2) 0)) (defScope (inClass (topS 2) 0)) .none kVi0 dci0 pmi0 ani0 gci0 gti0), sli0⟩)
    (fci0 : PySem.W.codeIn K gci0 "InvalidServices.__init__" = true)
    (fki0 : PySem.W.keepIn K (.ref gi0) = true)
    (iC1 : PySem.W.findIn K (.ref c1) "__init__" = some (some (.ref gi1)))
    (tI1 : PySem.W.typeIn K (.ref gi1) = some (.type "function"))
    (fli1 : K.lookup gi1 = some ⟨oci1, odi1, .func (PySem.W.fnOf "__init__" "InvalidRule.__init__" (defArgs (inClass (topS 3) 0)) (defBody (inClass (topS 3) 0)) (defScope (inClass (topS 3) 0)) .none kVi1 dci1 pmi1 ani1 gci1 gti1), sli1⟩)
    (fci1 : PySem.W.codeIn K gci1 "InvalidRule.__init__" = true)
    (fki1 : PySem.W.keepIn K (.ref gi1) = true)
    (iC2 : PySem.W.findIn K (.ref c2) "__init__" = some (some (.ref gi2)))
    (tI2 : PySem.W.typeIn K (.ref gi2) = some (.type "function"))
    (fli2 : K.lookup gi2 = some ⟨oci2, odi2, .func (PySem.W.fnOf "__init__" "InvalidText.__init__" (defArgs (inClass (topS 4) 0)) (defBody (inClass (topS 4) 0)) (defScope (inClass (topS 4) 0)) .none kVi2 dci2 pmi2 ani2 gci2 gti2), sli2⟩)
    (fci2 : PySem.W.codeIn K gci2 "InvalidText.__init__" = true)
    (fki2 : PySem.W.keepIn K (.ref gi2) = true)
    (iC3 : PySem.W.findIn K (.ref c3) "__init__" = some (some (.ref gi3)))
    (tI3 : PySem.W.typeIn K (.ref gi3) = some (.type "function"))
    (fli3 : K.lookup gi3 = some ⟨oci3, odi3, .func (PySem.W.fnOf "__init__" "InvalidState.__init__" (defArgs (inClass (topS 5) 0)) (defBody (inClass (topS 5) 0)) (defScope (inClass (topS 5) 0)) .none kVi3 dci3 pmi3 ani3 gci3 gti3), sli3⟩)
    (fci3 : PySem.W.codeIn K gci3 "InvalidState.__init__" = true)
    (fki3 : PySem.W.keepIn K (.ref gi3) = true)
    (iC4 : PySem.W.findIn K (.ref c4) "__init__" = some (some (.ref gi4)))
    (tI4 : PySem.W.typeIn K (.ref gi4) = some (.type "function"))
    (fli4 : K.lookup gi4 = some ⟨oci4, odi4, .func (PySem.W.fnOf "__init__" "NotAllowed.__init__" (defArgs (inClass (topS 6) 0)) (defBody (inClass (topS 6) 0)) (defScope (inClass (topS 6) 0)) .none kVi4 dci4 pmi4 ani4 gci4 gti4), sli4⟩)
    (fci4 : PySem.W.codeIn K gci4 "NotAllowed.__init__" = true)
    (fki4 : PySem.W.keepIn K (.ref gi4) = true)
    (iC5 : PySem.W.findIn K (.ref c5) "__init__" = some (some (.ref gi5)))
    (tI5 : PySem.W.typeIn K (.ref gi5) = some (.type "function"))
    (fli5 : K.lookup gi5 = some ⟨oci5, odi5, .func (PySem.W.fnOf "__init__" "InvalidPlan.__init__" (defArgs (inClass (topS 7) 0)) (defBody (inClass (topS 7) 0)) (defScope (inClass (topS 7) 0)) .none kVi5 dci5 pmi5 ani5 gci5 gti5), sli5⟩)
    (fci5 : PySem.W.codeIn K gci5 "InvalidPlan.__init__" = true)
    (fki5 : PySem.W.keepIn K (.ref gi5) = true)
    (iC6 : PySem.W.findIn K (.ref c6) "__init__" = some (some (.ref gi6)))
    (tI6 : PySem.W.typeIn K (.ref gi6) = some (.type "function"))
    (fli6 : K.lookup gi6 = some ⟨oci6, odi6, .func (PySem.W.fnOf "__init__" "InvalidBatches.__init__" (defArgs (inClass (topS 8) 0)) (defBody (inClass (topS 8) 0)) (defScope (inClass (topS 8) 0)) .none kVi6 dci6 pmi6 ani6 gci6 gti6), sli6⟩)
    (fci6 : PySem.W.codeIn K gci6 "InvalidBatches.__init__" = true)
    (fki6 : PySem.W.keepIn K (.ref gi6) = true)
    (iC7 : PySem.W.findIn K (.ref c7) "__init__" = some (some (.ref gi7)))
    (tI7 : PySem.W.typeIn K (.ref gi7) = some (.type "function"))
    (fli7 : K.lookup gi7 = some ⟨oci7, odi7, .func (PySem.W.fnOf "__init__" "InvalidPrices.__init__" (defArgs (inClass (topS 10) 0)) (defBody (inClass (topS 10) 0)) (defScope (inClass (topS 10) 0)) .none kVi7 dci7 pmi7 ani7 gci7 gti7), sli7⟩)
    (fci7 : PySem.W.codeIn K gci7 "InvalidPrices.__init__" = true)
    (fki7 : PySem.W.keepIn K (.ref gi7) = true)
    (iC8 : PySem.W.findIn K (.ref c8) "__init__" = some (some (.ref gi8)))
    (tI8 : PySem.W.typeIn K (.ref gi8) = some (.type "function"))
    (fli8 : K.lookup gi8 = some ⟨oci8, odi8, .func (PySem.W.fnOf "__init__" "InvalidQuestion.__init__" (defArgs (inClass (topS 11) 0)) (defBody (inClass (topS 11) 0)) (defScope (inClass (topS 11) 0)) .none kVi8 dci8 pmi8 ani8 gci8 gti8), sli8⟩)
    (fci8 : PySem.W.codeIn K gci8 "InvalidQuestion.__init__" = true)
    (fki8 : PySem.W.keepIn K (.ref gi8) = true)
    (iC9 : PySem.W.findIn K (.ref c9) "__init__" = some (some (.ref gi9)))
    (tI9 : PySem.W.typeIn K (.ref gi9) = some (.type "function"))
    (fli9 : K.lookup gi9 = some ⟨oci9, odi9, .func (PySem.W.fnOf "__init__" "InvalidCost.__init__" (defArgs (inClass (topS 9) 0)) (defBody (inClass (topS 9) 0)) (defScope (inClass (topS 9) 0)) .none kVi9 dci9 pmi9 ani9 gci9 gti9), sli9⟩)
    (fci9 : PySem.W.codeIn K gci9 "InvalidCost.__init__" = true)
    (fki9 : PySem.W.keepIn K (.ref gi9) = true)
    (iC10 : PySem.W.findIn K (.ref c10) "__init__" = some (some (.ref gi10)))
    (tI10 : PySem.W.typeIn K (.ref gi10) = some (.type "function"))
    (fli10 : K.lookup gi10 = some ⟨oci10, odi10, .func (PySem.W.fnOf "__init__" "Refused.__init__" (defArgs (inClass (topS 13) 0)) (defBody (inClass (topS 13) 0)) (defScope (inClass (topS 13) 0)) .none kVi10 dci10 pmi10 ani10 gci10 gti10), sli10⟩)
    (fci10 : PySem.W.codeIn K gci10 "Refused.__init__" = true)
    (fki10 : PySem.W.keepIn K (.ref gi10) = true)
    (ez11 : PySem.W.excIn K c11 PySem.HandSPX.veTail "ValueError.__new__" = true)
    (ez12 : PySem.W.excIn K c12 PySem.HandSPX.veTail "ValueError.__new__" = true)
    (sE : PySem.W.subIn K (.ref S) (.type "BaseException") = some true)
    (sD : PySem.W.hasDictIn K S = true)
    (sT : PySem.W.typeIn K (.ref S) = some (.type "type"))
    (xn : PySem.W.specialIn K (.builtin "object.__class__") "__get__" = some (some (.builtin "getset_descriptor.__get__")))
    (xt : PySem.W.takesIn K (.builtin "object.__class__") = some true)
    (da16 : PySem.W.nsIn K mainGlobals "_law_marks" = some (some (.ref gd16)))
    (dl16 : K.lookup gd16 = some ⟨ocd16, odd16, .func (PySem.W.fnOf "_law_marks" "_law_marks" (defArgs (topS 16)) (defBody (topS 16)) (defScope (topS 16)) .none kVd16 dcd16 pmd16 and16 gcd16 gtd16), sld16⟩)
    (dc16 : PySem.W.codeIn K gcd16 "_law_marks" = true)
    (dk16 : PySem.W.keepIn K (.ref gd16) = true)
    (da17 : PySem.W.nsIn K mainGlobals "_law_raise" = some (some (.ref gd17)))
    (dl17 : K.lookup gd17 = some ⟨ocd17, odd17, .func (PySem.W.fnOf "_law_raise" "_law_raise" (defArgs (topS 17)) (defBody (topS 17)) (defScope (topS 17)) .none kVd17 dcd17 pmd17 and17 gcd17 gtd17), sld17⟩)
    (dc17 : PySem.W.codeIn K gcd17 "_law_raise" = true)
    (dk17 : PySem.W.keepIn K (.ref gd17) = true)
    (da18 : PySem.W.nsIn K mainGlobals "_law_heard" = some (some (.ref gd18)))
    (dl18 : K.lookup gd18 = some ⟨ocd18, odd18, .func (PySem.W.fnOf "_law_heard" "_law_heard" (defArgs (topS 18)) (defBody (topS 18)) (defScope (topS 18)) .none kVd18 dcd18 pmd18 and18 gcd18 gtd18), sld18⟩)
    (dc18 : PySem.W.codeIn K gcd18 "_law_heard" = true)
    (dk18 : PySem.W.keepIn K (.ref gd18) = true)
    (da19 : PySem.W.nsIn K mainGlobals "law" = some (some (.ref gd19)))
    (dl19 : K.lookup gd19 = some ⟨ocd19, odd19, .func (PySem.W.fnOf "law" "law" (defArgs (topS 19)) (defBody (topS 19)) (defScope (topS 19)) .none kVd19 dcd19 pmd19 and19 gcd19 gtd19), sld19⟩)
    (dc19 : PySem.W.codeIn K gcd19 "law" = true)
    (dk19 : PySem.W.keepIn K (.ref gd19) = true)
    (bt0 : PySem.W.nsIn K mainGlobals "len" = some none)
    (bt1 : PySem.W.nsIn K mainGlobals "range" = some none)
    (bt2 : PySem.W.nsIn K mainGlobals "sorted" = some none)
    (bt3 : PySem.W.nsIn K mainGlobals "set" = some none)
    (bt4 : PySem.W.nsIn K mainGlobals "isinstance" = some none)
    (bt5 : PySem.W.nsIn K mainGlobals "abs" = some none)
    (bt6 : PySem.W.nsIn K mainGlobals "max" = some none)
    (bt7 : PySem.W.nsIn K mainGlobals "min" = some none)
    (bt8 : PySem.W.nsIn K mainGlobals "repr" = some none)
    (bt9 : PySem.W.nsIn K mainGlobals "any" = some none)
    (bt10 : PySem.W.nsIn K mainGlobals "all" = some none)
    (bt11 : PySem.W.nsIn K mainGlobals "int" = some none)
    (bt12 : PySem.W.nsIn K mainGlobals "str" = some none)
    (bt13 : PySem.W.nsIn K mainGlobals "list" = some none)
    (bt14 : PySem.W.nsIn K mainGlobals "tuple" = some none)
    (bt15 : PySem.W.nsIn K mainGlobals "bool" = some none)
    (bv : PySem.W.nsIn K mainGlobals "ValueError" = some none)
    (nd : [c0, c1, c2, c3, c4, c5, c6, c7, c8, c9, c10, c11, c12, S].Nodup) :
    ∃ fd : FuncData, (∀ (s : Shared) (v : Value), BindsTo s fd ⟨[v], []⟩ [("_law_script", v)]) ∧ ∀ base : Heap, K.In base → base.Ns mainGlobals mg → XG.FnG l.prog w K mg base CX0 5 fa fd ["_law_script"] (spD K 1 f_law) := by
  have e := hfa.symm.trans (PySem.W.mg_of X G da19)
  cases e
  have M : Bl mg := ⟨PySem.W.mg_none_of X G bt0, PySem.W.mg_none_of X G bt1, PySem.W.mg_none_of X G bt2, PySem.W.mg_none_of X G bt3, PySem.W.mg_none_of X G bt4, PySem.W.mg_none_of X G bt5, PySem.W.mg_none_of X G bt6, PySem.W.mg_none_of X G bt7, PySem.W.mg_none_of X G bt8, PySem.W.mg_none_of X G bt9, PySem.W.mg_none_of X G bt10, PySem.W.mg_none_of X G bt11, PySem.W.mg_none_of X G bt12, PySem.W.mg_none_of X G bt13, PySem.W.mg_none_of X G bt14, PySem.W.mg_none_of X G bt15⟩
  have T0 : UH.ExcAt K S c0 := ⟨⟨_, _, _, _, _, _, _, _, _, _, _, _, _, _, l0⟩, sa0, ga0, gg0, cl0, fa0, hd0, kp0⟩
  have T1 : UH.ExcAt K S c1 := ⟨⟨_, _, _, _, _, _, _, _, _, _, _, _, _, _, l1⟩, sa1, ga1, gg1, cl1, fa1, hd1, kp1⟩
  have T2 : UH.ExcAt K S c2 := ⟨⟨_, _, _, _, _, _, _, _, _, _, _, _, _, _, l2⟩, sa2, ga2, gg2, cl2, fa2, hd2, kp2⟩
  have T3 : UH.ExcAt K S c3 := ⟨⟨_, _, _, _, _, _, _, _, _, _, _, _, _, _, l3⟩, sa3, ga3, gg3, cl3, fa3, hd3, kp3⟩
  have T4 : UH.ExcAt K S c4 := ⟨⟨_, _, _, _, _, _, _, _, _, _, _, _, _, _, l4⟩, sa4, ga4, gg4, cl4, fa4, hd4, kp4⟩
  have T5 : UH.ExcAt K S c5 := ⟨⟨_, _, _, _, _, _, _, _, _, _, _, _, _, _, l5⟩, sa5, ga5, gg5, cl5, fa5, hd5, kp5⟩
  have T6 : UH.ExcAt K S c6 := ⟨⟨_, _, _, _, _, _, _, _, _, _, _, _, _, _, l6⟩, sa6, ga6, gg6, cl6, fa6, hd6, kp6⟩
  have T7 : UH.ExcAt K S c7 := ⟨⟨_, _, _, _, _, _, _, _, _, _, _, _, _, _, l7⟩, sa7, ga7, gg7, cl7, fa7, hd7, kp7⟩
  have T8 : UH.ExcAt K S c8 := ⟨⟨_, _, _, _, _, _, _, _, _, _, _, _, _, _, l8⟩, sa8, ga8, gg8, cl8, fa8, hd8, kp8⟩
  have T9 : UH.ExcAt K S c9 := ⟨⟨_, _, _, _, _, _, _, _, _, _, _, _, _, _, l9⟩, sa9, ga9, gg9, cl9, fa9, hd9, kp9⟩
  have T10 : UH.ExcAt K S c10 := ⟨⟨_, _, _, _, _, _, _, _, _, _, _, _, _, _, l10⟩, sa10, ga10, gg10, cl10, fa10, hd10, kp10⟩
  have T11 : UH.ExcAt K S c11 := ⟨⟨_, _, _, _, _, _, _, _, _, _, _, _, _, _, l11⟩, sa11, ga11, gg11, cl11, fa11, hd11, kp11⟩
  have T12 : UH.ExcAt K S c12 := ⟨⟨_, _, _, _, _, _, _, _, _, _, _, _, _, _, l12⟩, sa12, ga12, gg12, cl12, fa12, hd12, kp12⟩
  have N : UH.KN K mg S (UH.cAt [c0, c1, c2, c3, c4, c5, c6, c7, c8, c9, c10, c11, c12]) := UH.kn_of nd (PySem.W.mg_of X G aS) (PySem.W.mg_of X G a0) (PySem.W.mg_of X G a1) (PySem.W.mg_of X G a2) (PySem.W.mg_of X G a3) (PySem.W.mg_of X G a4) (PySem.W.mg_of X G a5) (PySem.W.mg_of X G a6) (PySem.W.mg_of X G a7) (PySem.W.mg_of X G a8) (PySem.W.mg_of X G a9) (PySem.W.mg_of X G a10) (PySem.W.mg_of X G a11) (PySem.W.mg_of X G a12) T0 T1 T2 T3 T4 T5 T6 T7 T8 T9 T10 T11 T12 sE sD sT ⟨xn, xt⟩
  have Fi0 := fun_mk (st := inClass (topS 2) 0) fli0 fci0 fki0
  have Bi0 := Fi0.binds (ps := ["self", "at"]) fun _ _ _ _ _ _ us hl => match us, hl with | [_, _], _ => rfl
  have Fi1 := fun_mk (st := inClass (topS 3) 0) fli1 fci1 fki1
  have Bi1 := Fi1.binds (ps := ["self", "at"]) fun _ _ _ _ _ _ us hl => match us, hl with | [_, _], _ => rfl
  have Fi2 := fun_mk (st := inClass (topS 4) 0) fli2 fci2 fki2
  have Bi2 := Fi2.binds (ps := ["self", "at"]) fun _ _ _ _ _ _ us hl => match us, hl with | [_, _], _ => rfl
  have Fi3 := fun_mk (st := inClass (topS 5) 0) fli3 fci3 fki3
  have Bi3 := Fi3.binds (ps := ["self", "at"]) fun _ _ _ _ _ _ us hl => match us, hl with | [_, _], _ => rfl
  have Fi4 := fun_mk (st := inClass (topS 6) 0) fli4 fci4 fki4
  have Bi4 := Fi4.binds (ps := ["self", "at"]) fun _ _ _ _ _ _ us hl => match us, hl with | [_, _], _ => rfl
  have Fi5 := fun_mk (st := inClass (topS 7) 0) fli5 fci5 fki5
  have Bi5 := Fi5.binds (ps := ["self", "at"]) fun _ _ _ _ _ _ us hl => match us, hl with | [_, _], _ => rfl
  have Fi6 := fun_mk (st := inClass (topS 8) 0) fli6 fci6 fki6
  have Bi6 := Fi6.binds (ps := ["self", "at"]) fun _ _ _ _ _ _ us hl => match us, hl with | [_, _], _ => rfl
  have Fi7 := fun_mk (st := inClass (topS 10) 0) fli7 fci7 fki7
  have Bi7 := Fi7.binds (ps := ["self", "at"]) fun _ _ _ _ _ _ us hl => match us, hl with | [_, _], _ => rfl
  have Fi8 := fun_mk (st := inClass (topS 11) 0) fli8 fci8 fki8
  have Bi8 := Fi8.binds (ps := ["self", "at"]) fun _ _ _ _ _ _ us hl => match us, hl with | [_, _], _ => rfl
  have Fi9 := fun_mk (st := inClass (topS 9) 0) fli9 fci9 fki9
  have Bi9 := Fi9.binds (ps := ["self", "at"]) fun _ _ _ _ _ _ us hl => match us, hl with | [_, _], _ => rfl
  have Fi10 := fun_mk (st := inClass (topS 13) 0) fli10 fci10 fki10
  have Bi10 := Fi10.binds (ps := ["self", "at"]) fun _ _ _ _ _ _ us hl => match us, hl with | [_, _], _ => rfl
  have Fd16 := fun_mk (st := topS 16) dl16 dc16 dk16
  have Bd16 := Fd16.binds (ps := ["_law_e"]) fun _ _ _ _ _ _ us hl => match us, hl with | [_], _ => rfl
  have Fd17 := fun_mk (st := topS 17) dl17 dc17 dk17
  have Bd17 := Fd17.binds (ps := ["_law_at", "_law_thing"]) fun _ _ _ _ _ _ us hl => match us, hl with | [_, _], _ => rfl
  have Fd18 := fun_mk (st := topS 18) dl18 dc18 dk18
  have Bd18 := Fd18.binds (ps := ["_law_at", "_law_thing"]) fun _ _ _ _ _ _ us hl => match us, hl with | [_, _], _ => rfl
  have Fd19 := fun_mk (st := topS 19) dl19 dc19 dk19
  refine ⟨PySem.W.fnOf "law" "law" (defArgs (topS 19)) (defBody (topS 19)) (defScope (topS 19)) .none kVd19 dcd19 pmd19 and19 gcd19 gtd19, fun s v => .of_eq rfl, fun base _ _ => ?_⟩
  have E0 : UH.HasEx l.prog w K mg base "InvalidServices" c0 := UH.init_ok T0 (PySem.W.mg_of X G a0) iC0 tI0 Fi0 Bi0 ⟨rfl, rfl, rfl, by decide +kernel, rfl, by decide +kernel, by decide +kernel⟩ rfl rfl rfl
  have E1 : UH.HasEx l.prog w K mg base "InvalidRule" c1 := UH.init_ok T1 (PySem.W.mg_of X G a1) iC1 tI1 Fi1 Bi1 ⟨rfl, rfl, rfl, by decide +kernel, rfl, by decide +kernel, by decide +kernel⟩ rfl rfl rfl
  have E2 : UH.HasEx l.prog w K mg base "InvalidText" c2 := UH.init_ok T2 (PySem.W.mg_of X G a2) iC2 tI2 Fi2 Bi2 ⟨rfl, rfl, rfl, by decide +kernel, rfl, by decide +kernel, by decide +kernel⟩ rfl rfl rfl
  have E3 : UH.HasEx l.prog w K mg base "InvalidState" c3 := UH.init_ok T3 (PySem.W.mg_of X G a3) iC3 tI3 Fi3 Bi3 ⟨rfl, rfl, rfl, by decide +kernel, rfl, by decide +kernel, by decide +kernel⟩ rfl rfl rfl
  have E4 : UH.HasEx l.prog w K mg base "NotAllowed" c4 := UH.init_ok T4 (PySem.W.mg_of X G a4) iC4 tI4 Fi4 Bi4 ⟨rfl, rfl, rfl, by decide +kernel, rfl, by decide +kernel, by decide +kernel⟩ rfl rfl rfl
  have E5 : UH.HasEx l.prog w K mg base "InvalidPlan" c5 := UH.init_ok T5 (PySem.W.mg_of X G a5) iC5 tI5 Fi5 Bi5 ⟨rfl, rfl, rfl, by decide +kernel, rfl, by decide +kernel, by decide +kernel⟩ rfl rfl rfl
  have E6 : UH.HasEx l.prog w K mg base "InvalidBatches" c6 := UH.init_ok T6 (PySem.W.mg_of X G a6) iC6 tI6 Fi6 Bi6 ⟨rfl, rfl, rfl, by decide +kernel, rfl, by decide +kernel, by decide +kernel⟩ rfl rfl rfl
  have E7 : UH.HasEx l.prog w K mg base "InvalidPrices" c7 := UH.init_ok T7 (PySem.W.mg_of X G a7) iC7 tI7 Fi7 Bi7 ⟨rfl, rfl, rfl, by decide +kernel, rfl, by decide +kernel, by decide +kernel⟩ rfl rfl rfl
  have E8 : UH.HasEx l.prog w K mg base "InvalidQuestion" c8 := UH.init_ok T8 (PySem.W.mg_of X G a8) iC8 tI8 Fi8 Bi8 ⟨rfl, rfl, rfl, by decide +kernel, rfl, by decide +kernel, by decide +kernel⟩ rfl rfl rfl
  have E9 : UH.HasEx l.prog w K mg base "InvalidCost" c9 := UH.init_ok T9 (PySem.W.mg_of X G a9) iC9 tI9 Fi9 Bi9 ⟨rfl, rfl, rfl, by decide +kernel, rfl, by decide +kernel, by decide +kernel⟩ rfl rfl rfl
  have E10 : UH.HasEx l.prog w K mg base "Refused" c10 := UH.init_ok T10 (PySem.W.mg_of X G a10) iC10 tI10 Fi10 Bi10 ⟨rfl, rfl, rfl, by decide +kernel, rfl, by decide +kernel, by decide +kernel⟩ rfl rfl rfl
  have R : UH.KR l.prog w K mg base (UH.cAt [c0, c1, c2, c3, c4, c5, c6, c7, c8, c9, c10, c11, c12]) := UH.kr_of E0 E1 E2 E3 E4 E5 E6 E7 E8 E9 E10 ⟨PySem.W.mg_of X G a11, ez11⟩ ⟨PySem.W.mg_of X G a12, ez12⟩
  have FM := UH.run_marks (P := l.prog) (w := w) (base := base) Fd16 N M.isinstance
  have FR := UH.run_raise (P := l.prog) (w := w) (base := base) Fd17 N R
  have FH := UH.run_heard (P := l.prog) (w := w) (base := base) Fd18 N FM (PySem.W.mg_of X G da16) dk16 Bd16 FR (PySem.W.mg_of X G da17) dk17 Bd17 M.isinstance (PySem.W.mg_none_of X G bv) M.range M.repr
  exact run_law (P := l.prog) (w := w) (base := base) Fd19 M ⟨_, _, PySem.W.mg_of X G da18, dk18, Bd18, FH⟩
end XN
open PySem PySem.W PyProof.Rows
set_option maxHeartbeats 0 in
theorem PySem.Challenge.cw_stopsfirst_k00_errors_and_what_they_keep_holds : PySem.Challenge.rw_stopsfirst_k00_errors_and_what_they_keep.Holds := by
  w_on; o_law; k_head; (case hw => w_witness2)
  k_fill
  refine XG.walkG (l := PySem.Challenge.rw_stopsfirst_k00_errors_and_what_they_keep) (n := 63) (k := 5) (x := "_law_script") (sp := fun _ K => XN.spD K 1 XN.f_law) rfl (by decide) rfl ⟨rfl, by decide, by decide⟩ (fun w h Y => PySem.W.kIn_of Y) ?F (fun w H a ns hl _ hS => XN.ask_of hS (XN.law_is (by omega)))
  case F =>
    intro w mg fa h KX G hmg
    refine' XN.all_mk KX G hmg ?aS ?a0 ?l0 ?sa0 ?ga0 ?gg0 ?cl0 ?fa0 ?hd0 ?kp0 ?a1 ?l1 ?sa1 ?ga1 ?gg1 ?cl1 ?fa1 ?hd1 ?kp1 ?a2 ?l2 ?sa2 ?ga2 ?gg2 ?cl2 ?fa2 ?hd2 ?kp2 ?a3 ?l3 ?sa3 ?ga3 ?gg3 ?cl3 ?fa3 ?hd3 ?kp3 ?a4 ?l4 ?sa4 ?ga4 ?gg4 ?cl4 ?fa4 ?hd4 ?kp4 ?a5 ?l5 ?sa5 ?ga5 ?gg5 ?cl5 ?fa5 ?hd5 ?kp5 ?a6 ?l6 ?sa6 ?ga6 ?gg6 ?cl6 ?fa6 ?hd6 ?kp6 ?a7 ?l7 ?sa7 ?ga7 ?gg7 ?cl7 ?fa7 ?hd7 ?kp7 ?a8 ?l8 ?sa8 ?ga8 ?gg8 ?cl8 ?fa8 ?hd8 ?kp8 ?a9 ?l9 ?sa9 ?ga9 ?gg9 ?cl9 ?fa9 ?hd9 ?kp9 ?a10 ?l10 ?sa10 ?ga10 ?gg10 ?cl10 ?fa10 ?hd10 ?kp10 ?a11 ?l11 ?sa11 ?ga11 ?gg11 ?cl11 ?fa11 ?hd11 ?kp11 ?a12 ?l12 ?sa12 ?ga12 ?gg12 ?cl12 ?fa12 ?hd12 ?kp12 ?iC0 ?tI0 ?fli0 ?fci0 ?fki0 ?iC1 ?tI1 ?fli1 ?fci1 ?fki1 ?iC2 ?tI2 ?fli2 ?fci2 ?fki2 ?iC3 ?tI3 ?fli3 ?fci3 ?fki3 ?iC4 ?tI4 ?fli4 ?fci4 ?fki4 ?iC5 ?tI5 ?fli5 ?fci5 ?fki5 ?iC6 ?tI6 ?fli6 ?fci6 ?fki6 ?iC7 ?tI7 ?fli7 ?fci7 ?fki7 ?iC8 ?tI8 ?fli8 ?fci8 ?fki8 ?iC9 ?tI9 ?fli9 ?fci9 ?fki9 ?iC10 ?tI10 ?fli10 ?fci10 ?fki10 ?ez11 ?ez12 ?sE ?sD ?sT ?xn ?xt ?da16 ?dl16 ?dc16 ?dk16 ?da17 ?dl17 ?dc17 ?dk17 ?da18 ?dl18 ?dc18 ?dk18 ?da19 ?dl19 ?dc19 ?dk19 ?bt0 ?bt1 ?bt2 ?bt3 ?bt4 ?bt5 ?bt6 ?bt7 ?bt8 ?bt9 ?bt10 ?bt11 ?bt12 ?bt13 ?bt14 ?bt15 ?bv ?nd
    (case aS => k_is); (case a0 => k_is); (case l0 => k_is); (case sa0 => k_is); (case ga0 => k_is); (case gg0 => k_is); (case cl0 => k_is); (case fa0 => k_is); (case hd0 => k_is); (case kp0 => k_is); (case a1 => k_is); (case l1 => k_is); (case sa1 => k_is); (case ga1 => k_is); (case gg1 => k_is); (case cl1 => k_is); (case fa1 => k_is); (case hd1 => k_is); (case kp1 => k_is); (case a2 => k_is); (case l2 => k_is); (case sa2 => k_is); (case ga2 => k_is); (case gg2 => k_is); (case cl2 => k_is); (case fa2 => k_is); (case hd2 => k_is); (case kp2 => k_is); (case a3 => k_is); (case l3 => k_is); (case sa3 => k_is); (case ga3 => k_is); (case gg3 => k_is); (case cl3 => k_is); (case fa3 => k_is); (case hd3 => k_is); (case kp3 => k_is); (case a4 => k_is); (case l4 => k_is); (case sa4 => k_is); (case ga4 => k_is); (case gg4 => k_is); (case cl4 => k_is); (case fa4 => k_is); (case hd4 => k_is); (case kp4 => k_is); (case a5 => k_is); (case l5 => k_is); (case sa5 => k_is); (case ga5 => k_is); (case gg5 => k_is); (case cl5 => k_is); (case fa5 => k_is); (case hd5 => k_is); (case kp5 => k_is); (case a6 => k_is); (case l6 => k_is); (case sa6 => k_is); (case ga6 => k_is); (case gg6 => k_is); (case cl6 => k_is); (case fa6 => k_is); (case hd6 => k_is); (case kp6 => k_is); (case a7 => k_is); (case l7 => k_is); (case sa7 => k_is); (case ga7 => k_is); (case gg7 => k_is); (case cl7 => k_is); (case fa7 => k_is); (case hd7 => k_is); (case kp7 => k_is); (case a8 => k_is); (case l8 => k_is); (case sa8 => k_is); (case ga8 => k_is); (case gg8 => k_is); (case cl8 => k_is); (case fa8 => k_is); (case hd8 => k_is); (case kp8 => k_is); (case a9 => k_is); (case l9 => k_is); (case sa9 => k_is); (case ga9 => k_is); (case gg9 => k_is); (case cl9 => k_is); (case fa9 => k_is); (case hd9 => k_is); (case kp9 => k_is); (case a10 => k_is); (case l10 => k_is); (case sa10 => k_is); (case ga10 => k_is); (case gg10 => k_is); (case cl10 => k_is); (case fa10 => k_is); (case hd10 => k_is); (case kp10 => k_is); (case a11 => k_is); (case l11 => k_is); (case sa11 => k_is); (case ga11 => k_is); (case gg11 => k_is); (case cl11 => k_is); (case fa11 => k_is); (case hd11 => k_is); (case kp11 => k_is); (case a12 => k_is); (case l12 => k_is); (case sa12 => k_is); (case ga12 => k_is); (case gg12 => k_is); (case cl12 => k_is); (case fa12 => k_is); (case hd12 => k_is); (case kp12 => k_is); (case iC0 => k_is); (case tI0 => k_is); (case fli0 => k_is); (case fci0 => k_is); (case fki0 => k_is); (case iC1 => k_is); (case tI1 => k_is); (case fli1 => k_is); (case fci1 => k_is); (case fki1 => k_is); (case iC2 => k_is); (case tI2 => k_is); (case fli2 => k_is); (case fci2 => k_is); (case fki2 => k_is); (case iC3 => k_is); (case tI3 => k_is); (case fli3 => k_is); (case fci3 => k_is); (case fki3 => k_is); (case iC4 => k_is); (case tI4 => k_is); (case fli4 => k_is); (case fci4 => k_is); (case fki4 => k_is); (case iC5 => k_is); (case tI5 => k_is); (case fli5 => k_is); (case fci5 => k_is); (case fki5 => k_is); (case iC6 => k_is); (case tI6 => k_is); (case fli6 => k_is); (case fci6 => k_is); (case fki6 => k_is); (case iC7 => k_is); (case tI7 => k_is); (case fli7 => k_is); (case fci7 => k_is); (case fki7 => k_is); (case iC8 => k_is); (case tI8 => k_is); (case fli8 => k_is); (case fci8 => k_is); (case fki8 => k_is); (case iC9 => k_is); (case tI9 => k_is); (case fli9 => k_is); (case fci9 => k_is); (case fki9 => k_is); (case iC10 => k_is); (case tI10 => k_is); (case fli10 => k_is); (case fci10 => k_is); (case fki10 => k_is); (case ez11 => k_exc); (case ez12 => k_exc); (case sE => k_is); (case sD => k_is); (case sT => k_is); (case xn => k_is); (case xt => k_is); (case da16 => k_is); (case dl16 => k_is); (case dc16 => k_is); (case dk16 => k_is); (case da17 => k_is); (case dl17 => k_is); (case dc17 => k_is); (case dk17 => k_is); (case da18 => k_is); (case dl18 => k_is); (case dc18 => k_is); (case dk18 => k_is); (case da19 => k_is); (case dl19 => k_is); (case dc19 => k_is); (case dk19 => k_is); (case bt0 => k_is); (case bt1 => k_is); (case bt2 => k_is); (case bt3 => k_is); (case bt4 => k_is); (case bt5 => k_is); (case bt6 => k_is); (case bt7 => k_is); (case bt8 => k_is); (case bt9 => k_is); (case bt10 => k_is); (case bt11 => k_is); (case bt12 => k_is); (case bt13 => k_is); (case bt14 => k_is); (case bt15 => k_is); (case bv => k_is); (case nd => decide)

