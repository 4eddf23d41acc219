import PyProof.Rows.All
import Wide.All
import OpenK.AllK
import Wide.FinOn
import PyProof.EqAt
import PyProof.EqKinds
import PyProof.TupleCall
import HandS.ForMost
import KE.SortCalls
import HandS.TupSets
import HandS.SetKeys
import HandS.TupAny
import HandS.Evl
import HandS.Walk
import HandS.Deep
import HandS.Wide
import HandS.Style
import HandS.IsInst
import KE.SortKeyHeap
import PyProof.StrLawsRepr
import PySem.Challenge.RW_stopsfirst_k01_lots_and_their_parts
set_option Elab.async false
set_option linter.all false
set_option maxRecDepth 100000
set_option maxHeartbeats 2000000
namespace XG
open PySem PySem.Spec PyProof.Rows L2

mutual
theorem Dp.nodict {K : PySem.W.Frag} {H : Hp} : ∀ (d : PyData) (v : V), Dp K H v d → d.hasDict = false
  | .none, _, _ => by simp only [PyData.hasDict]
  | .bool _, _, _ => by simp only [PyData.hasDict]
  | .int _, _, _ => by simp only [PyData.hasDict]
  | .str _, _, _ => by simp only [PyData.hasDict]
  | .list ds, _, h => by
    cases h with
    | lst _ ha =>
      simp only [PyData.hasDict]
      exact Dp.nodictAll ds _ ha
  | .tuple ds, _, h => by
    cases h with
    | tup _ ha =>
      simp only [PyData.hasDict]
      exact Dp.nodictAll ds _ ha
  | .dict _, _, h => by cases h
theorem Dp.nodictAll {K : PySem.W.Frag} {H : Hp} : ∀ (ds : List PyData) (vs : List V), DpAll K H vs ds → PyData.hasDictAll ds = false
  | [], _, _ => by simp only [PyData.hasDictAll]
  | d :: ds, _, h => by
    cases h with
    | cons h1 h2 => simp only [PyData.hasDictAll, Dp.nodict d _ h1, Dp.nodictAll ds _ h2, Bool.or_self]
end

/-- repr of data: needs the guards of the place -/
theorem repr_data {X : Cx} (hg : X.A.guards = some []) (hu : X.A.units + 64 < cLine) :
    CallR X (.builtin "repr") (fun vs H Q => ∃ (v : V) (d : PyData), vs = [v] ∧ Dp X.K H v d ∧ PyData.showable d = true ∧ d.depth ≤ 30 ∧ d.shown.length ≤ sizeLine ∧ Q (.str d.shown) H) := by
  intro pins s σ H xs us Q I r h
  obtain ⟨v, d, rfl, hd, hs, hdep, hz, q⟩ := h
  obtain ⟨u, rfl, ru⟩ := vals1 r
  have nd := Dp.nodict d v hd
  obtain ⟨as, rd⟩ := Dp.reads I d v u hd ru
  have fin : ∀ (h' : Heap) (t : Tok) (tk : Nat), (∀ b o, s.heap.get? b = some o → h'.get? b = some o) → EP X pins σ Q (.str d.shown t) { s with heap := h', toks := tk } :=
    fun h' t tk k => ⟨.str _, H, I.kept k, ⟨t, rfl⟩, q⟩
  have ref : ∀ a, u = .ref a → wpAny (model X.prog X.w) X.A (call (.builtin "repr") [u]) (EP X pins σ Q) X.xe s := fun a e => by
    subst e
    exact repr_of_reads' rd hs (PyData.noDict_hsm nd) hg (by omega) (fun _ _ e => e) (fun h' t tk k => fin h' t tk k) hz
  cases rd with
  | none => exact PySem.P.repr_of_none (by simpa only [PyData.shown] using fin s.heap _ _ fun _ _ e => e)
  | bool b => exact PySem.P.repr_of_bool (by simpa only [PyData.shown] using fin s.heap _ _ fun _ _ e => e)
  | int i t => exact PySem.P.repr_of_int (by simpa [PyData.showable] using hs) (by simpa only [PyData.shown] using fin s.heap _ _ fun _ _ e => e)
  | str x t => exact PySem.P.repr_of_str (by simpa only [PyData.shown] using fin s.heap _ _ fun _ _ e => e) (by simpa only [PyData.shown] using hz)
  | list _ _ _ _ => exact ref _ rfl
  | tuple _ _ _ _ => exact ref _ rfl
  | dict _ _ _ _ _ => exact absurd nd (by simp only [PyData.hasDict]; decide)

/-! ### defs, called where the guards are known to be none -/
section
variable {P : Program} {w : World} {K : PySem.W.Frag} {mg : Str → Option Value} {base : Heap} {CX : CXT} {k : Nat} {f : Addr} {fd : FuncData} {ps : List Str} {sp : Sp}
structure FnG (P : Program) (w : World) (K : PySem.W.Frag) (mg : Str → Option Value) (base : Heap) (CX : CXT) (k : Nat) (f : Addr) (fd : FuncData) (ps : List Str) (sp : Sp) : Prop where
  many : ∀ vs H Q E, sp vs H Q E → vs.length = ps.length
  go : ∀ (A : Around) (outer : List Env) (s : Shared) (H : Hp) (args : Args) (us : List Value) (vs : List V) (Q : VK) (E : XK),
    A.guards = some [] → Room k A → Env0 P w K mg base A outer s H → BindsTo s fd args (ps.zip us) → Vals vs us → sp vs H Q E →
      codeAny (model P w) A (.call (.ref f) args) (CR CX outer P w H s Q E) s
theorem FnG.up {j : Nat} (F : FnG P w K mg base CX j f fd ps sp) (h : j ≤ k) : FnG P w K mg base CX k f fd ps sp :=
  ⟨F.many, fun A outer s H args us vs Q E g r => F.go A outer s H args us vs Q E g (r.mono h)⟩

theorem fn_g {name qual : Str} {params : Arguments} {body : List Stmt} {scope : Scope} {dV kV doc pm cdv ct oc : Value} {an od : Option Addr} {osl : Array (Option Value)} {N : List Str}
    (lk : K.lookup f = some ⟨oc, od, .func (PySem.W.fnOf name qual params body scope dV kV doc pm an cdv ct), osl⟩)
    (hcd : PySem.W.codeIn K cdv qual = true) (S : FnScope N ps scope) (many : ∀ vs H Q E, sp vs H Q E → vs.length = ps.length)
    (inner : ∀ (A : Around) (outer : List Env) (s : Shared) (H : Hp) (vs : List V) (Q : VK) (E : XK), A.guards = some [] →
      Room k (A.deeper (envOfC qual scope s.heap.objs.size f cdv)) → sp vs H Q E →
      ∃ t, PSs (cxOf CX P w K mg base N qual scope f cdv A outer s H E) body t ∧ t { nx := fun _ H' => Q .non H', rt := Q } (start N vs) H) :
    FnG P w K mg base CX (k + 1) f (PySem.W.fnOf name qual params body scope dV kV doc pm an cdv ct) ps sp := by
  refine ⟨many, fun A outer s H args us vs Q E g hr e0 hb r want => ?_⟩
  have n := many _ _ _ _ want
  have inK : K.In s.heap := e0.mod.kin.keeps fun b o e => (e0.bs b o e).1
  have free : s.heap.NoLimit := e0.mod.nolimit.keeps fun b o e => (e0.bs b o e).1
  have kinds : ∀ y ∈ ps.zip us, scope.names.lookup y.1 = some .local ∨ (scope.names.lookup y.1 = some .cell ∧ ((cellsFrom (s.heap.objs.size + 1) scope.names []).lookup y.1).isSome = true) := by
    rintro ⟨y, v⟩ hy
    cases S.par y (List.of_mem_zip hy).1 with
    | inl q => exact .inl q
    | inr q => exact .inr ⟨q, PySem.W.cellsFrom_some _ _ _ (.inl q)⟩
  refine codeAny_call_function hr.depth (inK _ _ lk) rfl S.co S.gen rfl (PySem.W.codeRec_of inK hcd) (hb _ _ _ _ ?_)
  refine wpAny_newFunctionEnv_cells S.kind kinds fun env he s1 x => ?_
  subst he
  refine ⟨free.keeps x.toInCall.keep, codeAny_func ?_⟩
  obtain ⟨t, ht, hq⟩ := inner A outer s H vs Q E g (hr.deeper _) want
  have I := inv_start (E := E) (CX := CX) (cd := cdv) (f := f) (outer := outer) S hr.hd e0 n r x
  refine wpAny_mono (ht.run [] s1 (start N vs) H _ I hq) (fun fl s' hs => ?_) fun e s' hs => hs
  cases fl with
  | ret u =>
    obtain ⟨v, σ', H', J, rv, q⟩ := hs
    exact ⟨v, H', J.os, J.bare, J.base, J.hok, rv, q⟩
  | next =>
    obtain ⟨σ', H', J, q⟩ := hs
    exact ⟨.non, H', J.os, J.bare, J.base, J.hok, rfl, q⟩
  | brk => exact hs.elim fun _ h => h.elim fun _ h => h.2.elim
  | cont => exact hs.elim fun _ h => h.elim fun _ h => h.2.elim

/-- a def of the text that lets no exception out -/
theorem fun_g {x qual : Str} {st : Stmt} {N : List Str} (F : Fun K x qual st f fd) (S : FnScope N ps (defScope st)) (many : ∀ vs H Q E, sp vs H Q E → vs.length = ps.length)
    (inner : ∀ (cdv : Value) (A : Around) (outer : List Env) (s : Shared) (H : Hp) (vs : List V) (Q : VK) (E : XK), A.guards = some [] →
      Room k (A.deeper (envOfC qual (defScope st) s.heap.objs.size f cdv)) → sp vs H Q E →
      ∃ t, PSs (cxOf CX0 P w K mg base N qual (defScope st) f cdv A outer s H E).nox (defBody st) t ∧ t { nx := fun _ H' => Q .non H', rt := Q } (start N vs) H) :
    FnG P w K mg base CX0 (k + 1) f fd ps sp := by
  obtain ⟨oc, od, kV, doc, pm, an, cdv, ct, osl, rfl, lk, hcd⟩ := F.ex
  exact fn_g lk hcd S many fun A outer s H vs Q E g hr want => (inner cdv A outer s H vs Q E g hr want).imp fun t h => ⟨h.1.nox, h.2⟩
end

section
variable {X : Cx} {CX : CXT} {k : Nat} {f : Addr} {fd : FuncData} {ps : List Str} {sp : Sp} {E : XK} {x : Str} {p pos : Pos} {e : Expr} {es : List Expr} {t : TA}
theorem run_g {pins : List (Addr × Obj)} {σ : L2.St} {H : Hp} {s : Shared} {Q : VK} {us : List Value} {vs : List V} (F : FnG X.prog X.w X.K X.mg X.base CX k f fd ps sp) (hg : X.A.guards = some []) (hr : Room k X.A)
    (hb : Binds X.K fd ps []) (hx : Passes CX X E) (I : Inv X pins σ H s) (r : Vals vs us) (h : sp vs H Q E) : wpAny (model X.prog X.w) X.A (call (.ref f) us) (EP X pins σ Q) X.xe s := by
  have hl : us.length = ps.length := r.length.symm.trans (F.many _ _ _ _ h)
  have b := hb s us I.kIn (by rw [List.append_nil]; exact hl)
  rw [List.append_nil] at b
  refine wpAny_call (codeAny_mono (F.go X.A X.stack s H ⟨us, []⟩ us vs Q E hg hr I.env0 b r h) fun res s' q => ?_)
  match res, q with
  | .error e, q => exact hx pins σ H s e s' I q
  | .ok (.ret u), q => exact I.after q
theorem pe_g (F : FnG X.prog X.w X.K X.mg X.base CX k f fd ps sp) (hg : X.A.guards = some []) (hr : Room k X.A) (gl : Gl X x) (hm : X.mg x = some (.ref f)) (hk : PySem.W.keepIn X.K (.ref f) = true) (hb : Binds X.K fd ps [])
    (hx : Passes CX X E) (ha : PA X (e :: es) t) (hdb : (x == ("__debug__" : Str)) = false := by decide) (he : starEach (e :: es) X.env = (false, eval e X.env) :: starEach es X.env := by rfl)
    (hpl : (backTo pos (starEach es X.env)).any (·.1) = false := by rfl) : PE X (.Call (.Name x p) (e :: es) [] pos) (tCall sp [] E t) := by
  refine ⟨fun pins s σ H Q I h => wpAny_Call_Name_kw (ld_glob I gl hm ?_ hdb)⟩
  refine PySem.W.callWith_K (h₀ := X.base) I.ok.mod.kin hk (thn (ha.run pos pins s σ H _ I h) fun us s1 q => ?_) he hpl
  obtain ⟨vs, H1, I1, r, q⟩ := q
  exact ⟨I1.kIn, run_g F hg hr hb hx I1 r (by rw [List.append_nil] at q; exact q)⟩
end

/-! ### the end: the law's def is called by nobody who is told of -/
theorem callG {P : Program} {w : World} {K : PySem.W.Frag} {mg mb : Str → Option Value} {k : Nat} {fa a : Addr} {fd : FuncData} {x : Str} {sp : Sp} {s : Shared} {vs : List Value} {ns : List Int}
    (inK : K.In s.heap) (nm : s.heap.Ns mainGlobals mg) (nb : s.heap.Ns builtinsNs mb) (boot : ∀ x : Str, x ≠ "__name__" → mb x = bootBuiltins x) (free : s.heap.NoLimit) (gens : s.gens = #[])
    (ha : s.heap.get? a = some { cls := .type "list", data := .seq vs.toArray }) (hi : IntsAre vs ns) (hl : ns.length ≤ sizeLine) (room : Room k callerA)
    (F : ∀ base : Heap, K.In base → base.Ns mainGlobals mg → FnG P w K mg base CX0 k fa fd [x] sp) (bind : ∀ (s : Shared) (u : Value), BindsTo s fd ⟨[u], []⟩ [(x, u)])
    (ask : ∀ H : Hp, Only H → SqL K H a (ns.map V.int) → sp [.ref a] H (fun v _ => v = .bl true) fun _ _ _ => False) :
    codeAny (model P w) callerA (.call (.ref fa) ⟨[.ref a], []⟩) (fun r s' => r = .ok (.ret (.bool true)) ∧ OldK s.heap s'.heap ∧ s'.os = s.os ∧ AllBare s'.gens) s := by
  have rv := vals_ints hi
  have main : ∀ H : Hp, Only H → SqL K H a (ns.map V.int) → HOk P w H s.heap → (∀ b u, H b = some u → b = a ∧ K.lookup a = none) →
      codeAny (model P w) callerA (.call (.ref fa) ⟨[.ref a], []⟩) (fun r s' => r = .ok (.ret (.bool true)) ∧ OldK s.heap s'.heap ∧ s'.os = s.os ∧ AllBare s'.gens) s := by
    intro H only sq ok at_
    have plain : ∀ {b : Addr} {o : Obj} {es : Array DictEntry} {ep : Nat}, s.heap.get? b = some o → o.data = .dict es ep → H b = none := by
      intro b o es ep e d
      cases q : H b with
      | none => rfl
      | some u =>
        rw [(at_ b u q).1, ha] at e
        cases e
        cases d
    have ns_ : ∀ {b : Addr} {m : Str → Option Value}, s.heap.Ns b m → (hidT s.heap H).Ns b m := fun {b m} ⟨o, es, ep, e, d, r⟩ => ⟨o, es, ep, hidT_get e (plain e d), d, r⟩
    have kb : K.In (hidT s.heap H) := by
      intro b o e
      refine hidT_get (inK b o e) ?_
      cases q : H b with
      | none => rfl
      | some u =>
        obtain ⟨e1, e2⟩ := at_ b u q
        rw [e1, e2] at e
        cases e
    have lim : (hidT s.heap H).NoLimit := free.imp fun mc h => ⟨ns_ h.1, h.2⟩
    have m : Mod K mg (hidT s.heap H) := { kin := kb, glob := ns_ nm, blt := ⟨mb, ns_ nb, boot⟩, nolimit := lim }
    have none_in : ∀ b : Addr, b ∉ frs [] := fun b hb => nomatch hb
    have e0 : Env0 P w K mg (hidT s.heap H) callerA [] s H :=
      { frames := rfl, mod := m, bs := fun b o e => of_hidT e, bsz := Nat.le_of_eq (hidT_size _ _), funs := trivial, frf := fun b hb => absurd hb (none_in b), hok := ok, bare := .of_eq gens }
    refine codeAny_mono ((F _ kb (ns_ nm)).go callerA [] s H ⟨[.ref a], []⟩ [.ref a] [.ref a] _ _ rfl room e0 (bind s (.ref a)) (.cons rfl .nil) (ask H only sq)) fun r s' h => ?_
    match r, h with
    | .error _, h => exact h.elim
    | .ok (.ret u), h =>
      obtain ⟨v, H', os, bare, un, ok', r', q⟩ := h
      subst q
      obtain rfl : u = Value.bool true := r'
      refine ⟨rfl, .of_keep fun b o e => ?_, os, bare⟩
      cases q : H b with
      | none => exact un.keep b o e q (none_in b) (fun z => nomatch z)
      | some u =>
        rcases only b with z | ⟨ob, xs, z⟩
        · rw [q] at z; cases z
        · have e1 := (ok b _ z).1
          have e2 := (ok' b _ (un.frzs b ob _ z)).1
          rw [e] at e1
          cases e1
          exact e2
  cases hk : K.lookup a with
  | some o =>
    have e := inK a o hk
    rw [ha] at e
    cases e
    exact main (fun _ => none) (fun _ => .inl rfl) (.inr ⟨_, vs.toArray, _, hk, rfl, rfl, rfl, by rw [List.size_toArray, hi.length]; exact hl, by simpa using rv⟩) (fun _ _ z => nomatch z) fun _ _ z => nomatch z
  | none =>
    have it : ∀ (b : Addr) (u : HO), (if b = a then some (HO.frz { cls := .type "list", data := .seq vs.toArray } (.lst (ns.map V.int))) else none) = some u → b = a ∧ u = .frz { cls := .type "list", data := .seq vs.toArray } (.lst (ns.map V.int)) := by
      intro b u z
      by_cases hb : b = a
      · rw [if_pos hb] at z
        exact ⟨hb, (Option.some.inj z).symm⟩
      · rw [if_neg hb] at z
        cases z
    refine main (fun b => if b = a then some (HO.frz { cls := .type "list", data := .seq vs.toArray } (.lst (ns.map V.int))) else none) (fun b => ?_) (.inl (.inr ⟨_, if_pos rfl⟩)) (fun b u z => ?_) fun b u z => ⟨(it b u z).1, hk⟩
    · by_cases hb : b = a
      · exact .inr ⟨_, _, if_pos hb⟩
      · exact .inl (if_neg hb)
    · obtain ⟨e1, e2⟩ := it b u z
      subst e1
      subst e2
      exact ⟨ha, by rw [List.length_map]; exact hl, vs, _, rv, ha⟩

theorem walkG {l : PySem.W.OpenLaw} {n k : Nat} {q : Program} {loose : List Str} {XP : (Str → Option Value) → Heap → Prop} {YP : World → Heap → Prop} {d : DefRec} {K : Params → PySem.W.Frag} {sp : World → PySem.W.Frag → Sp} {x : Str}
    (hn : l.most = some n) (hn2 : n ≤ sizeLine) (hdf : d.params.defaults = []) (room : Room k callerA) (hY : ∀ (w : World) (h : Heap), YP w h → (K w.params).In h)
    (F : ∀ (w : World) (mg : Str → Option Value) (fa : Addr) (h : Heap), (K w.params).In h → h.Ns mainGlobals mg → mg d.name = some (.ref fa) →
      ∃ fd : FuncData, (∀ (s : Shared) (u : Value), BindsTo s fd ⟨[u], []⟩ [(x, u)]) ∧
        ∀ base : Heap, (K w.params).In base → base.Ns mainGlobals mg → FnG l.prog w (K w.params) mg base CX0 k fa fd [x] (sp w (K w.params)))
    (ask : ∀ (w : World) (H : Hp) (a : Addr) (ns : List Int), ns.length ≤ n → Only H → SqL (K w.params) H a (ns.map V.int) → sp w (K w.params) [.ref a] H (fun v _ => v = .bl true) fun _ _ _ => False) :
    PySem.W.WalkO q loose XP YP l.row.toRowW d [] (fun f vs => PySem.call f vs) := by
  refine Att.attach_call hn hdf fun w s₀ s₁ mg mb fa o pm cd doc a vs ns G Y ho hd hcd hmg hobj hints hlen hg => ?_
  obtain ⟨fd, bind, hF⟩ := F w mg fa _ (hY w _ Y) G.T.g hmg
  exact callG (hY w _ Y) G.T.g G.T.b G.T.builtins G.T.nolimit hg hobj hints (Nat.le_trans hlen hn2) room hF bind fun H only sq => ask w H a ns hlen only sq
end XG

set_option maxRecDepth 100000
set_option maxHeartbeats 2000000
/-! sorted of tuples that read as alike data, the empty one among them -/
namespace XB
open PySem PySem.Calls PySem.SeqAt PySem.W PyProof.Rows
section
variable {prog : Program} {w : World} {A : Around} {E : Value → Shared → Prop} {s : Shared}

theorem tuple_lt_call {Q : Value → Shared → Prop} {l b : Addr} {xs ys : Array Value} {e r : Nat → Bool} (hl : s.heap.IsTuple l xs) (hb : s.heap.IsTuple b ys)
    (he : ∀ j (h1 : j < xs.size) (h2 : j < ys.size), EqAt A.in1 s xs[j] ys[j] (e j)) (hr : ∀ j (h1 : j < xs.size) (h2 : j < ys.size), e j = false → RcLt A.in1 s xs[j] ys[j] (r j))
    (h : Q (.bool (firstLt e r (decide (xs.size < ys.size)) (List.range (min xs.size ys.size)))) s) : wpAny (model prog w) A (call (.builtin "tuple.__lt__") [.ref l, .ref b]) Q E s := by
  obtain ⟨⟨c, dd, dt, sl⟩, ho, hc, n, hd⟩ := id hl
  obtain ⟨⟨c2, dd2, dt2, sl2⟩, ho2, hc2, n2, hd2⟩ := id hb
  simp only at hc hd hc2 hd2
  subst hc hd hc2 hd2
  exact call_meets F.slot_tuple_lt ⟨_, ho, rfl⟩ F.entry_tuple_lt (F.args_tuple_lt_2 _ _) (tuple_ltAt l b xs ys n n2 dd dd2 sl sl2 e r) ⟨ho, ho2, he, hr, h⟩

/-- two tuples, as keys of one type -/
theorem one_tuples {xs ys : List PyData} {a b : Value} {as bs : List Addr} {Q : Bool → Shared → Prop} (ra : Reads s.heap a (.tuple xs) as) (rb : Reads s.heap b (.tuple ys) bs) (hal : alikeAll xs ys = true)
    (hu : A.units + min (PyData.tuple xs).depth (PyData.tuple ys).depth < cLine) (hq : Q (dataLt (.tuple xs) (.tuple ys)) s) : wpAny (model prog w) A (oneLt' true a b) Q E s := by
  cases ra with
  | @tuple l o vs n _ as₁ h1 h2 h3 h4 =>
    cases rb with
    | @tuple l' o' vs' n' _ bs₁ k1 k2 k3 k4 =>
      have n1 : vs.size = xs.length := by simpa using SeqAt.ReadsAll.length _ _ _ h4
      have n2 : vs'.size = ys.length := by simpa using SeqAt.ReadsAll.length _ _ _ k4
      rw [dataLt_tuple, ← firstLt_toks xs ys hal, ← n1, ← n2] at hq
      rw [oneLt'_eq]
      simp only [if_true]
      refine wpAny_bind (wpAny_cRoomFor (room_here hu) ?_)
      refine wpAny_bind (wpAny_callSpecialIfBound?_slot (T := "tuple") ⟨_, h1, h2⟩ F.slot_tuple_lt (tuple_lt_call (e := pairEq xs ys) (r := fun j => dataLt (xs.getD j .none) (ys.getD j .none)) ⟨_, h1, h2, _, h3⟩ ⟨_, k1, k2, _, k3⟩ (fun j j1 j2 => ?_) (fun j j1 j2 hj => ?_) ?_))
      · have q := eqAt_alikeAll xs ys A.in1 s vs.toList vs'.toList _ _ h4 k4 hal (room_in hu) j (by simpa using j1) (by simpa using j2)
        simpa using q
      · have q := rcLt_alikeAll xs ys A.in1 s vs.toList vs'.toList _ _ h4 k4 hal (room_in hu) j (by simpa using j1) (by simpa using j2) hj
        simpa using q
      · exact wpAny_truthy_bool hq

def isEmptyT : PyData → Bool
  | .tuple [] => true
  | _ => false
def headE : List PyData → Bool
  | d :: _ => isEmptyT d
  | [] => false
theorem isEmptyT_iff {d : PyData} : isEmptyT d = true ↔ d = .tuple [] := by
  cases d with
  | tuple xs => cases xs <;> simp [isEmptyT]
  | _ => simp [isEmptyT]

/-- the first items of tuples -/
theorem firsts_of {M : Model} : ∀ {vs : List Value} {ds : List PyData} {Q : List (Option Value) → Shared → Prop}, EachIs (fun v d => ∃ as, Reads s.heap v d as) vs ds → (∀ d ∈ ds, ∃ xs, d = .tuple xs) →
    (∀ fs : List (Option Value), EachIs (fun f d => f.isSome = (!isEmptyT d)) fs ds → Q fs s) → wpAny M A (vs.mapM firstOfTuple') Q E s
  | [], [], Q, .nil, _, h => by
    rw [List.mapM_nil]
    exact wpAny_pure (h [] .nil)
  | v :: vs, d :: ds, Q, .cons ⟨as, r⟩ t, ht, h => by
    rw [List.mapM_cons]
    refine wpAny_bind ?_
    obtain ⟨xs, rfl⟩ := ht d (List.mem_cons_self ..)
    cases r with
    | @tuple a o ys n _ _ ho hc hd hr =>
      rw [kas_first_eq]
      refine wpAny_bind (Looks.here (show Looks M s.heap (typeOf (.ref a)) o.cls from (Looks.ld ho).andThen .now) ?_)
      rw [hc, if_neg (by first | decide | simp)]
      refine wpAny_bind (listItems_at ho hd (wpAny_pure ?_))
      refine wpAny_bind (firsts_of t (fun d hd => ht d (List.mem_cons_of_mem _ hd)) fun fs hf => wpAny_pure (h _ (.cons ?_ hf)))
      cases q : ys.toList with
      | nil =>
        rw [q] at hr
        cases hr
        have : ys = #[] := by
          cases ys
          simp at q
          rw [q]
        rw [this]
        rfl
      | cons f fr =>
        rw [q] at hr
        cases hr with
        | cons r1 r2 =>
          have hf : ys[0]? = some f := by rw [← Array.getElem?_toList, q]; rfl
          rw [hf]
          rfl

theorem types_tups {vs : List Value} {ds : List PyData} (e : EachIs (fun v d => ∃ as, Reads s.heap v d as) vs ds) (ht : ∀ d ∈ ds, ∃ xs, d = .tuple xs) {M : Model} : ∀ v ∈ vs, Looks M s.heap (typeOf v) (Value.type "tuple") := fun v hv => by
  obtain ⟨d, hd, as, r⟩ := e.left v hv
  obtain ⟨xs, rfl⟩ := ht d hd
  exact looks_reads r

theorem kind_mixed {vs : List Value} {ds : List PyData} {Q : SortKind → Shared → Prop} {M : Model} (e : EachIs (fun v d => ∃ as, Reads s.heap v d as) vs ds) (ht : ∀ d ∈ ds, ∃ xs, d = .tuple xs) (hm : PyData.tuple [] ∈ ds)
    (h : Q (if headE ds = true then oneType' else general') s) : wpAny M A (keyKind' vs.toArray) Q E s := by
  have hn : vs ≠ [] := fun z => by
    subst z
    cases e
    exact absurd hm (by simp)
  rw [kat_kind_eq, List.mapM_toArray, map_eq_pure_bind]
  refine wpAny_bind (wpAny_bind (firsts_of e ht fun fs hf => wpAny_pure ?_))
  have h1 : ¬ ((fs.toArray.all fun x => x.isSome) = true) := by
    intro z
    simp only [List.all_toArray, List.all_eq_true] at z
    have key : ∀ {fs : List (Option Value)} {ds : List PyData}, EachIs (fun f d => f.isSome = (!isEmptyT d)) fs ds → PyData.tuple [] ∈ ds → (∀ x ∈ fs, x.isSome = true) → False := by
      intro fs ds hf
      induction hf with
      | nil => exact fun m _ => absurd m (by simp)
      | cons p r ih =>
        intro m z
        rcases List.mem_cons.mp m with q | q
        · subst q
          have := z _ (List.mem_cons_self ..)
          rw [p] at this
          exact absurd this (by decide)
        · exact ih q fun x hx => z x (List.mem_cons_of_mem _ hx)
    exact key hf hm z
  rw [if_neg h1]
  cases e with
  | nil => exact absurd rfl hn
  | @cons v d vs' ds' r1 t =>
    cases hf with
    | @cons f _ fs' _ p q =>
      have h0 : ((f :: fs').toArray[0]?.bind id) = f := by simp
      rw [h0]
      cases hs : f.isSome with
      | true =>
        rw [if_pos rfl]
        rw [hs] at p
        refine wpAny_pure ?_
        rw [if_neg (show ¬ headE (d :: ds') = true from fun z => by
          rw [show isEmptyT d = true from z] at p
          exact absurd p (by simp))] at h
        exact h
      | false =>
        rw [if_neg (by decide)]
        rw [hs] at p
        have hd : isEmptyT d = true := by
          cases q : isEmptyT d with
          | true => rfl
          | false =>
            rw [q] at p
            exact absurd p (by decide)
        rw [if_pos (show headE (d :: ds') = true from hd)] at h
        rw [oneTypeOnly'_eq, List.mapM_toArray, map_eq_pure_bind]
        refine wpAny_bind (wpAny_bind (wpAny_bind (kas_mapM (r := Value.type "tuple") _ (fun u hu Q' hq => (types_tups (.cons r1 t) ht u hu).here hq) (wpAny_pure ?_))))
        have hall : ((List.map (fun _ => Value.type "tuple") (v :: vs')).toArray.all fun x => x == Value.type "tuple") = true := by
          simp only [List.all_toArray, List.all_map, List.all_eq_true]
          intro _ _
          rfl
        have h00 : (List.map (fun _ => Value.type "tuple") (v :: vs')).toArray[0]? = some (Value.type "tuple") := by simp
        rw [h00]
        simp only [hall, if_true]
        exact wpAny_pure (wpAny_pure h)
end

/-- tuples of alike data can be sorted -/
theorem sorts_tups {prog : Program} {w : World} {A : Around} {s : Shared} {vs : List Value} {ds : List PyData} (e : EachIs (fun v d => ∃ as, Reads s.heap v d as) vs ds) (hal : AllAlike ds) (ht : ∀ d ∈ ds, ∃ xs, d = .tuple xs) (hu : ∀ d ∈ ds, A.units + d.depth < cLine) :
    SortsAt prog w A s (dataKind s.heap ds) vs := by
  by_cases hm : PyData.tuple [] ∈ ds
  · refine ⟨fun v hv => ?_, if headE ds = true then oneType' else general', ?_, fun h2 E Q hq => kind_mixed e ht hm hq⟩
    · obtain ⟨d, hd, as, r⟩ := e.left v hv
      exact ⟨_, dataKind_some hal hd r⟩
    · intro E x y a b Q ha hb hq
      obtain ⟨d, as, hd, ra, rfl⟩ := dataKind_inv ha
      obtain ⟨d', as', hd', rb, rfl⟩ := dataKind_inv hb
      have hdd := hal d hd d' hd'
      obtain ⟨xs, rfl⟩ := ht d hd
      obtain ⟨ys, rfl⟩ := ht d' hd'
      have room : A.units + min (PyData.tuple xs).depth (PyData.tuple ys).depth < cLine := Nat.lt_of_le_of_lt (Nat.add_le_add_left (Nat.min_le_left _ _) _) (hu _ hd)
      split
      · exact one_tuples ra rb (by simpa [alike] using hdd) room hq
      · exact oneLt_alike (f := false) (fun z => absurd z (by decide)) ra rb hdd (by simp) room hq
  · refine SortsAt.data e hal (.inl fun d hd => ?_) hu
    obtain ⟨xs, rfl⟩ := ht d hd
    cases xs with
    | nil => exact absurd hd hm
    | cons x r => exact ⟨x, r, rfl⟩
end XB

set_option maxRecDepth 100000
set_option maxHeartbeats 2000000
/-! sorted(xs) of data, over the layer -/
namespace XC
open PySem PySem.Calls PySem.SeqAt PySem.W PyProof.Rows L2
open PySem.Spec

/-- the one order of data -/
def dle : PyData → PyData → Bool := sortLe (listOrd itemOrd) false keyToks
def srt (ds : List PyData) : List PyData := ds.mergeSort dle
structure Srtbl (ds : List PyData) : Prop where
  alike : AllAlike ds
  kind : (∀ d ∈ ds, ∃ xs, d = .tuple xs) ∨ ∀ d ∈ ds, d ≠ .none ∧ ∀ xs, d ≠ .tuple xs
  deep : ∀ d ∈ ds, d.depth ≤ 20
theorem dle_total : TotalLe dle := sortLe_total _ _ _
theorem srt_perm (ds : List PyData) : (srt ds).Perm ds := List.mergeSort_perm _ _
theorem srt_sorted (ds : List PyData) : (srt ds).Pairwise fun a b => dle a b = true := sort_pairwise dle_total ds

theorem each_pairs {K : PySem.W.Frag} {H : Hp} : ∀ {vs : List V} {ds : List PyData} {us : List Value}, DpAll K H vs ds → Vals vs us → EachIs (fun u (p : V × PyData) => RelV p.1 u) us (vs.zip ds)
  | _, _, _, .nil, .nil => .nil
  | _, _, _, .cons _ t, .cons r rs => .cons r (each_pairs t rs)
theorem zip_fst {K : PySem.W.Frag} {H : Hp} : ∀ {vs : List V} {ds : List PyData}, DpAll K H vs ds → (vs.zip ds).map Prod.fst = vs ∧ (vs.zip ds).map Prod.snd = ds
  | _, _, .nil => ⟨rfl, rfl⟩
  | _, _, .cons _ t => by
    obtain ⟨a, b⟩ := zip_fst t
    exact ⟨by rw [List.zip_cons_cons, List.map_cons, a], by rw [List.zip_cons_cons, List.map_cons, b]⟩
theorem dp_zip {K : PySem.W.Frag} {H : Hp} : ∀ {vs : List V} {ds : List PyData}, DpAll K H vs ds → ∀ p ∈ vs.zip ds, Dp K H p.1 p.2
  | _, _, .nil, _, h => nomatch h
  | _, _, .cons d t, p, h => by
    rcases List.mem_cons.mp h with e | h
    · rw [e]; exact d
    · exact dp_zip t p h
theorem dp_of_pairs {K : PySem.W.Frag} {H : Hp} : ∀ {ps : List (V × PyData)}, (∀ p ∈ ps, Dp K H p.1 p.2) → DpAll K H (ps.map Prod.fst) (ps.map Prod.snd)
  | [], _ => .nil
  | p :: ps, h => .cons (h p (List.mem_cons_self ..)) (dp_of_pairs fun q hq => h q (List.mem_cons_of_mem _ hq))
theorem vals_of_each : ∀ {us : List Value} {ps : List (V × PyData)}, EachIs (fun u (p : V × PyData) => RelV p.1 u) us ps → Vals (ps.map Prod.fst) us
  | _, _, .nil => .nil
  | _, _, .cons r t => .cons r (vals_of_each t)

def rSortD (K : PySem.W.Frag) : List V → Hp → VK → Prop := fun args H Q => ∃ (a : Addr) (vs : List V) (ds : List PyData), args = [.ref a] ∧ SqL K H a vs ∧ DpAll K H vs ds ∧ Srtbl ds ∧
  ∀ (ps : List (V × PyData)) (p : Addr), ps.Perm (vs.zip ds) → ps.map Prod.snd = srt ds → H p = none → Q (.ref p) (upd H p (.lst (ps.map Prod.fst)))
theorem cr_sortedD {X : Cx} (hu : X.A.units + 100 < cLine) : CallR X (.builtin "sorted") (rSortD X.K) := by
  intro pins s σ H args us Q I r h
  obtain ⟨a, vs, ds, rfl, hs, hd, S, q⟩ := h
  obtain ⟨its, rv, hl, hz⟩ := I.list hs
  obtain ⟨u, rfl, ru⟩ := vals1 r
  obtain rfl : u = Value.ref a := ru
  have reads : ∀ s' : Shared, (∀ b o, s.heap.get? b = some o → s'.heap.get? b = some o) → EachIs (fun v d => ∃ as, Reads s'.heap v d as) its ds := by
    intro s' k
    have go : ∀ {vs : List V} {ds : List PyData} {us : List Value}, DpAll X.K H vs ds → Vals vs us → EachIs (fun v d => ∃ as, Reads s'.heap v d as) us ds := by
      intro vs ds us h
      induction h using DpAll.rec (motive_1 := fun _ _ _ => True) generalizing us with
      | nil => intro r; cases r; exact .nil
      | cons d t _ ih =>
        intro r
        cases r with
        | cons r rs =>
          obtain ⟨as, rd⟩ := Dp.reads I _ _ _ d r
          exact .cons ⟨as, PyProof.Rows.Reads.keeps k rd⟩ (ih rs)
      | _ => trivial
    exact go hd rv
  have room : ∀ d ∈ ds, X.A.in1.in1.units + d.depth < cLine := fun d m => by
    have := S.deep d m
    show X.A.units + 1 + 1 + d.depth < cLine
    omega
  have len : its.length ≤ sizeLine := by rw [← rv.length]; exact hz
  have keep : ∀ b o, s.heap.get? b = some o → (sortingHeap (copyHeap s.heap its) (s.heap.objs.size + 1) its).get? b = some o := fun b o e => sorting_copy_old e
  have e2 := reads { s with heap := sortingHeap (copyHeap s.heap its) (s.heap.objs.size + 1) its } keep
  have SA : SortsAt X.prog X.w X.A.in1.in1 { s with heap := sortingHeap (copyHeap s.heap its) (s.heap.objs.size + 1) its } (dataKind (sortingHeap (copyHeap s.heap its) (s.heap.objs.size + 1) its) ds) its := by
    rcases S.kind with k | k
    · exact XB.sorts_tups e2 S.alike k room
    · exact SortsAt.data e2 S.alike (.inr k) room
  refine sorted_vals hl.isList SA len ?_
  have ek : EachIs (fun v (p : V × PyData) => (dataKind (sortingHeap (copyHeap s.heap its) (s.heap.objs.size + 1) its) ds).keyOf v = some (keyToks p.2)) its (vs.zip ds) := by
    have go : ∀ {vs : List V} {us : List Value} {es : List PyData}, EachIs (fun v d => ∃ as, Reads (sortingHeap (copyHeap s.heap its) (s.heap.objs.size + 1) its) v d as) us es → vs.length = es.length → (∀ d ∈ es, d ∈ ds) →
        EachIs (fun v (p : V × PyData) => (dataKind (sortingHeap (copyHeap s.heap its) (s.heap.objs.size + 1) its) ds).keyOf v = some (keyToks p.2)) us (vs.zip es) := by
      intro vs us es h
      induction h generalizing vs with
      | nil =>
        intro hl _
        cases vs with
        | nil => exact .nil
        | cons _ _ => cases hl
      | cons r t ih =>
        intro hl hm
        cases vs with
        | nil => cases hl
        | cons v vs =>
          obtain ⟨as, r⟩ := r
          exact .cons (dataKind_some S.alike (hm _ (List.mem_cons_self ..)) r) (ih (Nat.succ.inj hl) fun d hd => hm d (List.mem_cons_of_mem _ hd))
    refine go e2 ?_ fun d hd => hd
    have := (zip_fst hd).1
    have a := congrArg List.length this
    have b := congrArg List.length (zip_fst hd).2
    rw [List.length_map] at a b
    omega
  have out := sortVals_each (κ := dataKind (sortingHeap (copyHeap s.heap its) (s.heap.objs.size + 1) its) ds) (rev := false) (fun p : V × PyData => keyToks p.2) (each_pairs hd rv) ek
  have perm : ((vs.zip ds).mergeSort (sortLe (listOrd itemOrd) false fun p : V × PyData => keyToks p.2)).Perm (vs.zip ds) := List.mergeSort_perm _ _
  have snd : ((vs.zip ds).mergeSort (sortLe (listOrd itemOrd) false fun p : V × PyData => keyToks p.2)).map Prod.snd = srt ds := by
    have e := sort_maps (r := sortLe (listOrd itemOrd) false fun p : V × PyData => keyToks p.2) (s := dle) Prod.snd (l := vs.zip ds) (fun _ _ _ _ => rfl)
    rw [e, (zip_fst hd).2]
    rfl
  obtain ⟨n, hn⟩ := PyProof.Rows.sortedAll_at s.heap its (sortVals (dataKind (sortingHeap (copyHeap s.heap its) (s.heap.objs.size + 1) its) ds) false its its).toArray
  refine ⟨.ref (s.heap.objs.size + 1), upd H (s.heap.objs.size + 1) (.lst (((vs.zip ds).mergeSort (sortLe (listOrd itemOrd) false fun p : V × PyData => keyToks p.2)).map Prod.fst)),
    I.laid (t' := s.toks) (fun _ _ => PyProof.Rows.sortedAll_old) (Nat.le_succ _) ⟨?_, _, n, vals_of_each out, hn⟩, rfl, q _ _ perm snd (I.hok.fresh (Nat.le_succ _))⟩
  rw [List.length_map, perm.length_eq]
  have := congrArg List.length (zip_fst hd).1
  rw [List.length_map] at this
  omega
end XC

set_option maxRecDepth 100000
set_option maxHeartbeats 4000000
/-! sets of items (texts, numbers, tuples of these): made of a list or a tuple, walked, sorted -/
namespace XD
open PySem PySem.Spec PyProof.Rows L2

/-- a kind of items -/
structure ItK (P : Program) (w : World) (D : Type) where
  it : Heap → Value → D → Prop
  hash : D → Int
  one : ∀ {h : Heap} {v : Value} {d d' : D}, it h v d → it h v d' → d = d'
  keep : ∀ {h h' : Heap} {v : Value} {d : D}, it h v d → (∀ b o, h.get? b = some o → h'.get? b = some o) → it h' v d
  off : ∀ {h h' : Heap} {v : Value} {d : D} {a : Addr} {o : Obj} {es : Array (Int × Value)} {ep : Nat} {t : SetTable}, it h v d → h.get? a = some o → o.data = .set es ep t → Heap.SameBut a h h' → it h' v d
  ex : SetTable → List Int → Prop
  ex0 : ∀ b : Bool, ex (.fresh 0 0 b) []
  hashes : ∀ {A : Around} {E : Value → Shared → Prop} {s : Shared} {v : Value} {d : D} {Q : Int → Shared → Prop}, A.units < cLine → it s.heap v d →
    (∀ tk, s.toks ≤ tk → Q (hash d) { s with toks := tk }) → wpAny (model P w) A (pyHash v) Q E s

/-- the set at a has the items L -/
structure SetB {P : Program} {w : World} {D : Type} (κ : ItK P w D) (h : Heap) (a : Addr) (L : List (Value × D)) (es : Array (Int × Value)) (ep : Nat) (t : SetTable) : Prop where
  ob : ∃ o, h.get? a = some o ∧ o.ExactSet ∧ o.data = .set es ep t
  rows : es.toList = L.map fun p => (κ.hash p.2, p.1)
  nd : (L.map Prod.snd).Nodup
  its : ∀ p ∈ L, κ.it h p.1 p.2
  ris : Ris t.place.toList
  led : w.params.followText "set-order" = true ∨ t.led = true
  fits : t.fits es.size = true
  few : L.length < 64
  ex : κ.ex t (L.map fun p => κ.hash p.2)

section
variable {P : Program} {w : World} {D : Type} {κ : ItK P w D}
theorem SetB.size {h : Heap} {a : Addr} {L : List (Value × D)} {es : Array (Int × Value)} {ep : Nat} {t : SetTable} (B : SetB κ h a L es ep t) : es.size = L.length := by
  have q := congrArg List.length B.rows
  rwa [Array.length_toList, List.length_map] at q
theorem SetB.keep {h h' : Heap} {a : Addr} {L : List (Value × D)} {es : Array (Int × Value)} {ep : Nat} {t : SetTable} (B : SetB κ h a L es ep t) (ha : ∀ o, h.get? a = some o → h'.get? a = some o)
    (hi : ∀ p ∈ L, κ.it h' p.1 p.2) : SetB κ h' a L es ep t :=
  { B with ob := B.ob.imp fun o q => ⟨ha o q.1, q.2⟩, its := hi }
abbrev newSetObj (w : World) : Obj := { cls := .type "set", dict := none, data := .set #[] 0 (.fresh 0 0 (!w.params.followText "set-order")) }
theorem SetB.fresh {h : Heap} {a : Addr} (e : h.get? a = some (newSetObj w)) : SetB κ h a [] #[] 0 (.fresh 0 0 (!w.params.followText "set-order")) where
  ob := ⟨_, e, ⟨rfl, rfl, rfl⟩, rfl⟩
  rows := rfl
  nd := .nil
  its := fun _ m => nomatch m
  ris := .nil
  led := by
    show _ ∨ (!w.params.followText "set-order") = true
    cases w.params.followText "set-order" <;> simp
  fits := by rfl
  few := Nat.zero_lt_succ 63
  ex := κ.ex0 _

/-- adding an item -/
def Adds (κ : ItK P w D) : Prop := ∀ (A : Around) (E : Value → Shared → Prop) (s : Shared) (a : Addr) (L : List (Value × D)) (es : Array (Int × Value)) (ep : Nat) (t : SetTable) (x : Value) (d : D) (Q : Bool → Shared → Prop),
  A.units < cLine → SetB κ s.heap a L es ep t → κ.it s.heap x d → L.length + 1 < 64 →
  (∀ (b : Bool) (h' : Heap) (L' : List (Value × D)) (es' : Array (Int × Value)) (ep' : Nat) (t' : SetTable), Heap.SameBut a s.heap h' → SetB κ h' a L' es' ep' t' →
    (d ∈ L.map Prod.snd → L' = L) → (d ∉ L.map Prod.snd → L'.Perm ((x, d) :: L)) → Q b { s with heap := h' }) →
  wpAny (model P w) A (setAddHashed a x (κ.hash d)) Q E s

/-- what a set has of the first i of some items -/
structure Has (ks : List (Value × D)) (i : Nat) (L : List (Value × D)) : Prop where
  sub : ∀ p ∈ L, p ∈ ks.take i
  all : ∀ p ∈ ks.take i, p.2 ∈ L.map Prod.snd
  len : L.length ≤ i
theorem Has.none (ks : List (Value × D)) : Has ks 0 [] := ⟨fun _ m => (nomatch m), fun p m => by simp at m, Nat.le_refl _⟩
theorem take_one {α : Type} {l : List α} {i : Nat} {x : α} (h : l[i]? = some x) : l.take (i + 1) = l.take i ++ [x] := by
  rw [List.take_add_one, h, Option.toList_some]
theorem Has.step [DecidableEq D] {ks L L' : List (Value × D)} {i : Nat} {x : Value × D} (g : Has ks i L) (h : ks[i]? = some x) (old : x.2 ∈ L.map Prod.snd → L' = L) (new : x.2 ∉ L.map Prod.snd → L'.Perm (x :: L)) : Has ks (i + 1) L' := by
  have e := take_one h
  by_cases m : x.2 ∈ L.map Prod.snd
  · rw [old m]
    refine ⟨fun p q => ?_, fun p q => ?_, Nat.le_succ_of_le g.len⟩
    · rw [e]
      exact List.mem_append_left _ (g.sub p q)
    · rw [e, List.mem_append, List.mem_singleton] at q
      exact q.elim (g.all p) fun z => z ▸ m
  · have pm := new m
    refine ⟨fun p q => ?_, fun p q => ?_, ?_⟩
    · rw [e, List.mem_append, List.mem_singleton]
      exact (List.mem_cons.mp (pm.mem_iff.mp q)).elim .inr fun z => .inl (g.sub p z)
    · rw [e, List.mem_append, List.mem_singleton] at q
      rw [(pm.map Prod.snd).mem_iff, List.map_cons, List.mem_cons]
      exact q.elim (fun z => .inr (g.all p z)) fun z => .inl (congrArg Prod.snd z)
    · have := pm.length_eq
      rw [List.length_cons] at this
      have := g.len
      omega

theorem fill_set [DecidableEq D] (add : Adds κ) {A : Around} {I : Addr} {fp wr : List Addr} {G : Array GenState → Array GenState → Prop} {n : Nat} {Pv : Nat → Value → Prop} {St : Nat → Shared → Prop} {R : Result → Shared → Prop}
    (W : WalksS P w A.in1 I fp wr G n Pv St) {S : Addr} (off : S ∉ fp) {ks : List (Value × D)} (hn : n = ks.length) (few : ks.length < 64) (val : ∀ i v, Pv i v → ∃ d, ks[i]? = some (v, d))
    {h0 : Heap} (hk : ∀ p ∈ ks, κ.it h0 p.1 p.2) (fS : h0.get? S = none) (fW : ∀ b ∈ wr, h0.get? b = none) (hu : A.in1.units < cLine) :
    ∀ (m i : Nat) (s : Shared), n - i = m → i ≤ n → St i s → (∀ b o, h0.get? b = some o → s.heap.get? b = some o) →
      (∃ L es ep t, SetB κ s.heap S L es ep t ∧ Has ks i L) →
      (∀ s' L es ep t, Moved (S :: wr) G s s' → SetB κ s'.heap S L es ep t → Has ks n L → (∀ b o, h0.get? b = some o → s'.heap.get? b = some o) → R (.ok (.ret .none)) s') →
      codeAny (model P w) A (.builtin "set.update.loop" ⟨[.ref S, .ref I], []⟩) R s := by
  have offW : S ∉ wr := fun z => off (W.sub _ z)
  have wide : ∀ b ∈ wr, b ∈ S :: wr := fun b => List.mem_cons_of_mem S
  have stay : ∀ {s s' : Shared}, Moved wr G s s' → (∀ b o, h0.get? b = some o → s.heap.get? b = some o) → ∀ b o, h0.get? b = some o → s'.heap.get? b = some o := by
    intro s s' mv k b o e
    refine mv.heap b o (fun z => ?_) (k b o e)
    rw [fW b z] at e
    cases e
  have here : ∀ {s : Shared} {i : Nat} {L : List (Value × D)}, Has ks i L → (∀ b o, h0.get? b = some o → s.heap.get? b = some o) → ∀ p ∈ L, κ.it s.heap p.1 p.2 :=
    fun g k p m => κ.keep (hk p (List.mem_of_mem_take (g.sub p m))) k
  intro m
  induction m with
  | zero =>
    intro i s em hi st k hS fin
    obtain ⟨L, es, ep, t, B, g⟩ := hS
    obtain rfl : i = n := by omega
    refine codeAny_builtin PyProof.Rows.F.entry_set_update_loop ?_
    rw [Around.under_plainId PyProof.Rows.F.plain_set_update_loop]
    refine wpAny_bind (W.done s _ _ st fun s' mv => ?_)
    exact wpAny_pure (fin s' L es ep t (mv.mono wide) (B.keep (fun o => mv.heap S o offW) (here g (stay mv k))) g (stay mv k))
  | succ m ih =>
    intro i s em hi st k hS fin
    obtain ⟨L, es, ep, t, B, g⟩ := hS
    have lt : i < n := by omega
    refine codeAny_builtin PyProof.Rows.F.entry_set_update_loop ?_
    rw [Around.under_plainId PyProof.Rows.F.plain_set_update_loop]
    refine wpAny_bind (W.item i s _ _ lt st fun v s1 pv st1 mv => ?_)
    obtain ⟨d, hd⟩ := val i v pv
    have k1 := stay mv k
    have B1 := B.keep (fun o => mv.heap S o offW) (here g k1)
    have x1 : κ.it s1.heap v d := κ.keep (hk _ (List.mem_of_getElem? hd)) k1
    show wpAny _ A.in1 (holding [v] (setAdd S v) >>= _) _ _ s1
    refine wpAny_bind (wpAny_holding ?_)
    unfold setAdd
    refine wpAny_holding (wpAny_bind (κ.hashes hu x1 fun tk ht => ?_))
    refine add A.in1 _ { s1 with toks := tk } S L es ep t v d _ hu B1 x1 (by have := g.len; omega) fun b h2 L2 es2 ep2 t2 sb B2 c1 c2 => ?_
    have k2 : ∀ b o, h0.get? b = some o → h2.get? b = some o := by
      intro b o e
      refine (sb.2 b fun z => ?_).trans (k1 b o e)
      rw [z, fS] at e
      cases e
    refine wpAny_pure ⟨plainId_quiet PyProof.Rows.F.plain_set_update_loop _, ih (i + 1) _ (by omega) lt (W.frame _ s1 _ _ st1 ht fun b hb o e => ?_) k2 ⟨L2, es2, ep2, t2, B2, g.step hd c1 c2⟩ fun s3 L3 es3 ep3 t3 mv3 B3 g3 k3 => ?_⟩
    · exact (sb.2 b fun z => off (z ▸ hb)).trans e
    · refine fin s3 L3 es3 ep3 t3 (Moved.trans W.gtrans ((mv.mono wide).then_heap ht fun b o hb e => ?_) mv3) B3 g3 k3
      exact (sb.2 b fun z => hb (z ▸ List.mem_cons_self ..)).trans e

theorem none_at {h : Heap} {b : Addr} (hb : h.objs.size ≤ b) : h.get? b = none := by
  cases q : h.get? b with
  | none => rfl
  | some o => exact absurd (Heap.lt_size q) (Nat.not_lt.mpr hb)

set_option maxHeartbeats 8000000 in
/-- set(xs), xs a list -/
theorem set_of_list [DecidableEq D] (add : Adds κ) {A : Around} {E : Value → Shared → Prop} {s : Shared} {l : Addr} {items : Array Value} {ks : List (Value × D)} {Q : Value → Shared → Prop} (calm : A.handled = none) (hl : s.heap.IsList l items)
    (em : items.toList = ks.map Prod.fst) (hk : ∀ p ∈ ks, κ.it s.heap p.1 p.2) (few : ks.length < 64) (hu : A.units + 3 < cLine)
    (h : ∀ (h' : Heap) (tk : Nat) L es ep t, SetB κ h' s.heap.objs.size L es ep t → Has ks ks.length L → (∀ b o, s.heap.get? b = some o → h'.get? b = some o) → Q (.ref s.heap.objs.size) { s with heap := h', toks := tk }) :
    wpAny (model P w) A (call (.type "set") [.ref l]) Q E s := by
  have num : items.size = ks.length := by
    have q := congrArg List.length em
    rwa [Array.length_toList, List.length_map] at q
  have m1 := F.called_set.mro
  have m2 := F.called_set.made
  have m3 := F.called_set.sub
  obtain ⟨c, tl, m0⟩ := m1
  refine wpAny_call (codeAny_of_tree ?_)
  show wpAny _ _ (callAny (.type "set") _) _ _ _
  refine wpAny_pure ⟨Code.quiet_builtin _ (by decide +kernel), codeAny_builtin F.entry_type_call ?_⟩
  rw [Around.under_plain (weight_type_call_type "set" [.ref l] []) rfl]
  have m4 := F.called_set.notType
  have m5 := F.called_set.canCreate
  have m6 := F.typeCall_set_1 (.ref l)
  repeat any_goals first | assumption | wp_step
  refine codeAny_mono (code_set_led1 (.ref l) (E := E) (Q₁ := fun v s1 => v = .ref s.heap.objs.size ∧ s1 = { s with heap := s.heap.push (newSetObj w) }) ⟨rfl, rfl⟩) fun r s1 hr => ?_
  match r, hr with
  | .error _, hr => exact hr
  | .ok (.ret v), hr =>
    obtain ⟨e1, e2⟩ := hr
    subst e1
    subst e2
    have made : (s.heap.push (newSetObj w)).get? s.heap.objs.size = some (newSetObj w) := Heap.get?_push_size _ rfl
    have ty : Shared.TypeIs { s with heap := s.heap.push (newSetObj w) } (.ref s.heap.objs.size) "set" := ⟨_, made, rfl⟩
    have m7 := F.called_set.init.lookup
    have m8 := F.called_set.init.bind (.ref s.heap.objs.size)
    repeat any_goals first | assumption | wp_step
    refine codeAny_mono (codeAny_call_builtin (R := wants (fun r s2 => r = .none ∧ ∃ h' tk L es ep t, s2 = { s with heap := h', toks := tk } ∧ SetB κ h' s.heap.objs.size L es ep t ∧ Has ks ks.length L ∧ ∀ b o, s.heap.get? b = some o → h'.get? b = some o) E)
      F.called_set.init.plain F.entry_set_init (check_set_init_1 ty ?_)) fun r2 s2 hr2 => ?_
    · obtain ⟨⟨c0, d0, dt, sl⟩, ol, c1, n1, d1⟩ := hl
      simp only at c1 d1
      subst c1 d1
      have ol1 : (s.heap.push (newSetObj w)).get? l = some { cls := .type "list", dict := d0, data := .seq items n1, slots := sl } := Heap.get?_push_of_some _ ol
      have s1 := F.sub_list_set
      have s2 := F.sub_list_frozenset
      have nd : (Value.type "list" == Value.type "dict") = false := by decide
      have il : (s.heap.push (newSetObj w)).IsList l items := ⟨_, ol1, rfl, n1, rfl⟩
      unfold Builtin.«set.__init__» noKeywords Builtin.Frozenset.updateFrom
      generalize hi : pyIter = it
      wp_walk
      subst hi
      refine wpAny_pyIter_list il (wpAny_bind (wpAny_runValue ?_))
      have ll : l < s.heap.objs.size := Heap.lt_size ol
      have sz : (s.heap.push (newSetObj w)).objs.size = s.heap.objs.size + 1 := Heap.size_push ..
      have ne : l ≠ (s.heap.push (newSetObj w)).objs.size := by
        rw [sz]
        exact Nat.ne_of_lt (Nat.lt_succ_of_lt ll)
      have offS : s.heap.objs.size ∉ [(s.heap.push (newSetObj w)).objs.size, l] := by
        rw [sz]
        simp only [List.mem_cons, List.not_mem_nil, or_false, not_or]
        exact ⟨Nat.ne_of_lt (Nat.lt_succ_self _), Nat.ne_of_gt ll⟩
      have val : ∀ (i : Nat) (v : Value), items[i]? = some v → ∃ d, ks[i]? = some (v, d) := by
        intro i v hv
        rw [← Array.getElem?_toList, em, List.getElem?_map] at hv
        cases q : ks[i]? with
        | none =>
          rw [q] at hv
          cases hv
        | some p =>
          rw [q] at hv
          obtain rfl : p.1 = v := Option.some.inj hv
          exact ⟨p.2, rfl⟩
      have c3 : A.in1.in1.in1.handled = none := by simp [calm]
      refine fill_set add (Walks.list c3 _ l ne items).toS offS num few val hk (none_at (Nat.le_refl _)) (fun b hb => none_at ?_) hu (items.size - 0) 0 _ (by omega) (Nat.zero_le _)
        ⟨⟨_, Heap.get?_push_size _ rfl, rfl, rfl⟩, il.push _⟩ (fun b o e => Heap.get?_push_of_some _ (Heap.get?_push_of_some _ e)) ⟨[], #[], 0, _, SetB.fresh (Heap.get?_push_of_some _ made), Has.none ks⟩ fun s3 L es ep t mv B g k => ?_
      · rw [List.mem_singleton.mp hb, sz]
        exact Nat.le_succ _
      · obtain ⟨h3, g3, d3, tk3, os3⟩ := s3
        have z1 : g3 = s.gens := mv.gens
        have z2 : d3 = s.drawn := mv.drawn
        have z3 : os3 = s.os := mv.os
        subst z1 z2 z3
        refine wpAny_pure ?_
        show wpAny _ _ (ret Value.none) _ _ _
        rw [num] at g
        exact wpAny_pure ⟨rfl, h3, tk3, L, es, ep, t, rfl, B, g, k⟩
    · match r2, hr2 with
      | .error _, hr2 => exact hr2
      | .ok (.ret r), hr2 =>
        obtain ⟨e1, h', tk, L, es, ep, t, e2, B, g, k⟩ := hr2
        subst e1 e2
        repeat any_goals first | assumption | wp_step
        exact h _ _ _ _ _ _ B g k

set_option maxHeartbeats 8000000 in
/-- set(xs), xs a tuple -/
theorem set_of_tuple [DecidableEq D] (add : Adds κ) {A : Around} {E : Value → Shared → Prop} {s : Shared} {l : Addr} {items : Array Value} {ks : List (Value × D)} {Q : Value → Shared → Prop} (calm : A.handled = none) (hl : s.heap.IsTuple l items)
    (em : items.toList = ks.map Prod.fst) (hk : ∀ p ∈ ks, κ.it s.heap p.1 p.2) (few : ks.length < 64) (hu : A.units + 3 < cLine)
    (h : ∀ (h' : Heap) (tk : Nat) L es ep t, SetB κ h' s.heap.objs.size L es ep t → Has ks ks.length L → (∀ b o, s.heap.get? b = some o → h'.get? b = some o) → Q (.ref s.heap.objs.size) { s with heap := h', toks := tk }) :
    wpAny (model P w) A (call (.type "set") [.ref l]) Q E s := by
  have num : items.size = ks.length := by
    have q := congrArg List.length em
    rwa [Array.length_toList, List.length_map] at q
  have m1 := F.called_set.mro
  have m2 := F.called_set.made
  have m3 := F.called_set.sub
  obtain ⟨c, tl, m0⟩ := m1
  refine wpAny_call (codeAny_of_tree ?_)
  show wpAny _ _ (callAny (.type "set") _) _ _ _
  refine wpAny_pure ⟨Code.quiet_builtin _ (by decide +kernel), codeAny_builtin F.entry_type_call ?_⟩
  rw [Around.under_plain (weight_type_call_type "set" [.ref l] []) rfl]
  have m4 := F.called_set.notType
  have m5 := F.called_set.canCreate
  have m6 := F.typeCall_set_1 (.ref l)
  repeat any_goals first | assumption | wp_step
  refine codeAny_mono (code_set_led1 (.ref l) (E := E) (Q₁ := fun v s1 => v = .ref s.heap.objs.size ∧ s1 = { s with heap := s.heap.push (newSetObj w) }) ⟨rfl, rfl⟩) fun r s1 hr => ?_
  match r, hr with
  | .error _, hr => exact hr
  | .ok (.ret v), hr =>
    obtain ⟨e1, e2⟩ := hr
    subst e1
    subst e2
    have made : (s.heap.push (newSetObj w)).get? s.heap.objs.size = some (newSetObj w) := Heap.get?_push_size _ rfl
    have ty : Shared.TypeIs { s with heap := s.heap.push (newSetObj w) } (.ref s.heap.objs.size) "set" := ⟨_, made, rfl⟩
    have m7 := F.called_set.init.lookup
    have m8 := F.called_set.init.bind (.ref s.heap.objs.size)
    repeat any_goals first | assumption | wp_step
    refine codeAny_mono (codeAny_call_builtin (R := wants (fun r s2 => r = .none ∧ ∃ h' tk L es ep t, s2 = { s with heap := h', toks := tk } ∧ SetB κ h' s.heap.objs.size L es ep t ∧ Has ks ks.length L ∧ ∀ b o, s.heap.get? b = some o → h'.get? b = some o) E)
      F.called_set.init.plain F.entry_set_init (check_set_init_1 ty ?_)) fun r2 s2 hr2 => ?_
    · obtain ⟨⟨c0, d0, dt, sl⟩, ol, c1, n1, d1⟩ := hl
      simp only at c1 d1
      subst c1 d1
      have ol1 : (s.heap.push (newSetObj w)).get? l = some { cls := .type "tuple", dict := d0, data := .seq items n1, slots := sl } := Heap.get?_push_of_some _ ol
      have s1 := F.sub_tuple_set
      have s2 := F.sub_tuple_frozenset
      have nd : (Value.type "tuple" == Value.type "dict") = false := by decide
      have il : (s.heap.push (newSetObj w)).IsTuple l items := ⟨_, ol1, rfl, n1, rfl⟩
      unfold Builtin.«set.__init__» noKeywords Builtin.Frozenset.updateFrom
      generalize hi : pyIter = it
      wp_walk
      subst hi
      refine wpAny_pyIter_tuple il (wpAny_bind (wpAny_runValue ?_))
      have ll : l < s.heap.objs.size := Heap.lt_size ol
      have sz : (s.heap.push (newSetObj w)).objs.size = s.heap.objs.size + 1 := Heap.size_push ..
      have ne : l ≠ (s.heap.push (newSetObj w)).objs.size := by
        rw [sz]
        exact Nat.ne_of_lt (Nat.lt_succ_of_lt ll)
      have offS : s.heap.objs.size ∉ [(s.heap.push (newSetObj w)).objs.size, l] := by
        rw [sz]
        simp only [List.mem_cons, List.not_mem_nil, or_false, not_or]
        exact ⟨Nat.ne_of_lt (Nat.lt_succ_self _), Nat.ne_of_gt ll⟩
      have val : ∀ (i : Nat) (v : Value), items[i]? = some v → ∃ d, ks[i]? = some (v, d) := by
        intro i v hv
        rw [← Array.getElem?_toList, em, List.getElem?_map] at hv
        cases q : ks[i]? with
        | none =>
          rw [q] at hv
          cases hv
        | some p =>
          rw [q] at hv
          obtain rfl : p.1 = v := Option.some.inj hv
          exact ⟨p.2, rfl⟩
      have c3 : A.in1.in1.in1.handled = none := by simp [calm]
      refine fill_set add (Walks.tuple c3 _ l ne items).toS offS num few val hk (none_at (Nat.le_refl _)) (fun b hb => none_at ?_) hu (items.size - 0) 0 _ (by omega) (Nat.zero_le _)
        ⟨⟨_, Heap.get?_push_size _ rfl, rfl, rfl⟩, il.push _⟩ (fun b o e => Heap.get?_push_of_some _ (Heap.get?_push_of_some _ e)) ⟨[], #[], 0, _, SetB.fresh (Heap.get?_push_of_some _ made), Has.none ks⟩ fun s3 L es ep t mv B g k => ?_
      · rw [List.mem_singleton.mp hb, sz]
        exact Nat.le_succ _
      · obtain ⟨h3, g3, d3, tk3, os3⟩ := s3
        have z1 : g3 = s.gens := mv.gens
        have z2 : d3 = s.drawn := mv.drawn
        have z3 : os3 = s.os := mv.os
        subst z1 z2 z3
        refine wpAny_pure ?_
        show wpAny _ _ (ret Value.none) _ _ _
        rw [num] at g
        exact wpAny_pure ⟨rfl, h3, tk3, L, es, ep, t, rfl, B, g, k⟩
    · match r2, hr2 with
      | .error _, hr2 => exact hr2
      | .ok (.ret r), hr2 =>
        obtain ⟨e1, h', tk, L, es, ep, t, e2, B, g, k⟩ := hr2
        subst e1 e2
        repeat any_goals first | assumption | wp_step
        exact h _ _ _ _ _ _ B g k
end
end XD

set_option maxRecDepth 100000
set_option maxHeartbeats 4000000
/-! items: whole numbers and texts -/
namespace XD
open PySem PySem.Spec PyProof.Rows L2

theorem lift_perm {α β : Type} {f : α → β} : ∀ {l n : List β}, l.Perm n → ∀ m : List α, n = m.map f → ∃ m' : List α, m'.Perm m ∧ l = m'.map f := by
  intro l n p
  induction p with
  | nil =>
    intro m e
    cases m with
    | nil => exact ⟨[], .refl _, rfl⟩
    | cons _ _ => cases e
  | cons x _ ih =>
    intro m e
    cases m with
    | nil => cases e
    | cons a m =>
      rw [List.map_cons] at e
      obtain ⟨e1, e2⟩ := List.cons.inj e
      obtain ⟨m', p', e'⟩ := ih m e2
      exact ⟨a :: m', p'.cons a, by rw [List.map_cons, e1, e']⟩
  | swap x y l =>
    intro m e
    match m, e with
    | [], e => cases e
    | [_], e => cases e
    | a :: b :: m, e =>
      rw [List.map_cons, List.map_cons] at e
      obtain ⟨e1, e2⟩ := List.cons.inj e
      obtain ⟨e2, e3⟩ := List.cons.inj e2
      exact ⟨b :: a :: m, .swap a b m, by rw [List.map_cons, List.map_cons, e1, e2, e3]⟩
  | trans _ _ ih1 ih2 =>
    intro m e
    obtain ⟨m1, p1, e1⟩ := ih2 m e
    obtain ⟨m2, p2, e2⟩ := ih1 m1 e1
    exact ⟨m2, p2.trans p1, e2⟩

section
variable (P : Program) (w : World)
/-- numbers and texts as items -/
def kS : ItK P w Key where
  it := fun _ v k => (mixKind P w).is k v = true ∧ v.scannable = true
  hash := (mixKind P w).hash
  one := fun h h' => (mixKind P w).inj _ _ _ h.1 h'.1
  keep := fun h _ => h
  off := fun h _ _ _ => h
  ex := fun _ _ => True
  ex0 := fun _ => trivial
  hashes := fun _ h q => (mixKind P w).pyHash h.1 (q _ (Nat.le_succ _))
end

section
variable {P : Program} {w : World} {A : Around} {E : Value → Shared → Prop} {s : Shared}
theorem elems_kS {h : Heap} {a : Addr} {L : List (Value × Key)} {es : Array (Int × Value)} {ep : Nat} {t : SetTable} (B : SetB (kS P w) h a L es ep t) : ElemsOf (mixKind P w) es.toList := by
  intro e he
  rw [B.rows] at he
  obtain ⟨p, hp, rfl⟩ := List.mem_map.mp he
  exact ⟨⟨p.2, (B.its p hp).1, rfl⟩, (B.its p hp).2⟩
theorem size_small {n : Nat} (h : n < 64) : n < scanBound := Nat.lt_of_lt_of_le h (by unfold scanBound; omega)
/-- a set laid anew with other entries -/
theorem laidB {a : Addr} {o : Obj} {es es1 : Array (Int × Value)} {ep : Nat} {t t1 : SetTable} {L1 : List (Value × Key)} (ho : s.heap.get? a = some o) (hx : o.ExactSet) (hd : o.data = .set es ep t)
    (rows : es1.toList = L1.map fun p => ((mixKind P w).hash p.2, p.1)) (nd : (L1.map Prod.snd).Nodup) (its : ∀ p ∈ L1, (mixKind P w).is p.2 p.1 = true ∧ p.1.scannable = true) (ris : Ris t1.place.toList)
    (led : w.params.followText "set-order" = true ∨ t1.led = true) (fits : t1.fits es1.size = true) (few : L1.length < 64) :
    SetB (kS P w) (s.heap.update a (Obj.putSet es1 t1)) a L1 es1 (ep + 1) t1 :=
  { ob := ⟨_, store_at ho hd, hx, rfl⟩, rows := rows, nd := nd, its := its, ris := ris, led := led, fits := fits, few := few, ex := trivial }

theorem adds_kS : Adds (kS P w) := by
  intro A E s a L es ep t x k Q _ B hx few hQ
  obtain ⟨o, ho, hex, hd⟩ := B.ob
  obtain ⟨hk, hs⟩ := hx
  have el := elems_kS B
  have sm : es.size < scanBound := size_small (by rw [B.size]; exact B.few)
  show wpAny _ _ (setAddHashed a x ((mixKind P w).hash k)) _ _ _
  unfold setAddHashed setAddHashedIn
  refine wpAny_holding (wpAny_bind (wpAny_setState_of ho hd B.fits ?_))
  dsimp only
  rw [byScan_of hs sm el]
  simp only [↓reduceIte]
  unfold setAddByScan
  refine wpAny_bind (wpAny_bind (wpAny_rule (wpAny_bind (wpAny_setScan_of hk ho hd B.fits el ?_))))
  have mem : k ∈ L.map Prod.snd ↔ ∃ e ∈ es.toList, (mixKind P w).is k e.2 = true := by
    rw [B.rows]
    constructor
    · intro m
      obtain ⟨p, hp, rfl⟩ := List.mem_map.mp m
      exact ⟨_, List.mem_map.mpr ⟨p, hp, rfl⟩, (B.its p hp).1⟩
    · rintro ⟨e, he, q⟩
      obtain ⟨p, hp, rfl⟩ := List.mem_map.mp he
      exact List.mem_map.mpr ⟨p, hp, (mixKind P w).inj _ _ _ (B.its p hp).1 q⟩
  cases fi : List.findIdx? (fun e => (mixKind P w).is k e.2) es.toList with
  | some j =>
    dsimp only
    obtain ⟨hj, pj, _⟩ := List.findIdx?_eq_some_iff_getElem.mp fi
    have m := mem.mpr ⟨_, List.getElem_mem hj, pj⟩
    exact wpAny_pure (wpAny_pure (hQ false s.heap L es ep t (.refl a s.heap) B (fun _ => rfl) fun z => absurd m z))
  | none =>
    dsimp only
    have m : k ∉ L.map Prod.snd := fun z => by
      obtain ⟨e, he, q⟩ := mem.mp z
      have c := List.findIdx?_eq_none_iff.mp fi e he
      rw [q] at c
      cases c
    have gw : ∀ (b : Bool) {s1 : Shared} {Q' : Unit → Shared → Prop}, Q' () s1 → wpAny (model P w) A (match b with | true => rule "set.scan.the-table-gave-way" | false => pure ()) Q' E s1 := by
      intro b s1 Q' q
      cases b
      · exact wpAny_pure q
      · exact wpAny_rule q
    have p0 := layNew_perm t es ((mixKind P w).hash k) x
    have f0 := layNew_fits t es ((mixKind P w).hash k) x
    have r0 := layNew_ris t es ((mixKind P w).hash k) x B.ris
    have l0 := layNew_led t es ((mixKind P w).hash k) x
    generalize layNew t es ((mixKind P w).hash k) x = Z at p0 f0 r0 l0 ⊢
    obtain ⟨es1, t1, dummy, gave⟩ := Z
    dsimp only at p0 f0 r0 l0 ⊢
    rw [Array.toList_push, B.rows] at p0
    obtain ⟨L1, p1, e1⟩ := lift_perm (f := fun p : Value × Key => ((mixKind P w).hash p.2, p.1)) (p0.trans (List.perm_append_singleton _ _)) ((x, k) :: L) rfl
    have len1 : L1.length < 64 := by
      rw [p1.length_eq]
      exact few
    have nd1 : (L1.map Prod.snd).Nodup := (p1.map Prod.snd).nodup_iff.mpr (List.nodup_cons.mpr ⟨m, B.nd⟩)
    have its1 : ∀ p ∈ L1, (mixKind P w).is p.2 p.1 = true ∧ p.1.scannable = true := by
      intro p hp
      rcases List.mem_cons.mp (p1.mem_iff.mp hp) with e | hp
      · rw [e]
        exact ⟨hk, hs⟩
      · exact B.its p hp
    have led1 : w.params.followText "set-order" = true ∨ t1.led = true := by
      rw [l0]
      exact B.led
    have sz1 : es1.size = L1.length := by
      rw [← Array.length_toList, e1, List.length_map]
    have done : ∀ (h' : Heap) (L2 : List (Value × Key)) (es2 : Array (Int × Value)) (ep2 : Nat) (t2 : SetTable), Heap.SameBut a s.heap h' → SetB (kS P w) h' a L2 es2 ep2 t2 → L2.Perm L1 → Q true { s with heap := h' } :=
      fun h' L2 es2 ep2 t2 sb B2 p2 => hQ true h' L2 es2 ep2 t2 sb B2 (fun z => absurd z m) fun _ => p2.trans p1
    have tail : ∀ t2 : SetTable, Ris t2.place.toList → (w.params.followText "set-order" = true ∨ t2.led = true) → t2.fits es1.size = true → ∀ {g : Bool → Sem Unit}, (∀ (b : Bool) (s1 : Shared) (Q' : Unit → Shared → Prop), Q' () s1 → wpAny (model P w) A (g b) Q' E s1) →
        ∀ {R : Option Bool → Shared → Prop}, (∀ h', Q true { s with heap := h' } → R (some true) { s with heap := h' }) → wpAny (model P w) A (do
          storeSet a es1 t2
          if (!dummy && t2.tooFull) = true then do
              g (relayAll t2 es1 (SetTable.grown es1.size)).2.2
              storeSet a (relayAll t2 es1 (SetTable.grown es1.size)).1 (relayAll t2 es1 (SetTable.grown es1.size)).2.1
              pure (some true)
            else pure (some true)) R E s := by
      intro t2 r2 l2 f2 g hg R hR
      have b1 := laidB (P := P) (w := w) ho hex hd e1 nd1 its1 r2 l2 f2 len1
      have sb1 : Heap.SameBut a s.heap (s.heap.update a (Obj.putSet es1 t2)) := .update ..
      refine wpAny_bind (wpAny_storeSet_of ho hd ?_ (fits_of_scanBound (size_small (by rw [sz1]; exact len1))))
      split
      · have p3 := relayAll_perm t2 es1 (SetTable.grown es1.size)
        have f3 := relayAll_fits t2 es1 (SetTable.grown es1.size)
        have r3 := relayAll_ris t2 es1 (SetTable.grown es1.size)
        have l3 := relayAll_led t2 es1 (SetTable.grown es1.size)
        generalize relayAll t2 es1 (SetTable.grown es1.size) = Y at p3 f3 r3 l3 ⊢
        obtain ⟨es3, t3, gave3⟩ := Y
        dsimp only at p3 f3 r3 l3 ⊢
        rw [e1] at p3
        obtain ⟨L3, p4, e3⟩ := lift_perm (f := fun p : Value × Key => ((mixKind P w).hash p.2, p.1)) p3 L1 rfl
        have len3 : L3.length < 64 := by
          rw [p4.length_eq]
          exact len1
        have sz3 : es3.size < 64 := by
          rw [← Array.length_toList, e3, List.length_map]
          exact len3
        obtain ⟨o1, ho1, hx1, hd1⟩ := b1.ob
        refine wpAny_bind (hg _ _ _ (wpAny_bind (wpAny_storeSet_of ho1 hd1 ?_ (fits_of_scanBound (size_small sz3)))))
        have b3 := laidB (P := P) (w := w) (s := { s with heap := s.heap.update a (Obj.putSet es1 t2) }) ho1 hx1 hd1 e3 ((p4.map Prod.snd).nodup_iff.mpr nd1) (fun p hp => its1 p (p4.mem_iff.mp hp)) r3 (by rw [l3]; exact l2) f3 len3
        exact wpAny_pure (hR _ (done _ L3 es3 _ t3 (sb1.trans (.update ..)) b3 p4))
      · exact wpAny_pure (hR _ (done _ L1 es1 _ t2 sb1 b1 (.refl _)))
    have gw' : ∀ (b : Bool) (s1 : Shared) (Q' : Unit → Shared → Prop), Q' () s1 → wpAny (model P w) A (match b with | true => rule "set.scan.the-table-gave-way" | false => pure ()) Q' E s1 := fun b s1 Q' q => gw b q
    refine wpAny_bind (gw _ ?_)
    split
    · refine wpAny_bind ?_
      rw [hashByValue_scannable 8 hs]
      refine wpAny_pure ?_
      refine tail _ ?_ ?_ ?_ ?_ ?_
      · first | exact r0 | (split <;> exact r0)
      · first | exact led1 | (split <;> exact led1)
      · first | exact f0 | (split <;> first | exact f0 | exact SetTable.fits_plain_off f0)
      · intro b s1 Q' q
        cases b <;> first | exact wpAny_pure q | exact wpAny_rule q
      · intro h' q
        dsimp only
        exact wpAny_pure q
    · refine wpAny_bind (wpAny_pure ?_)
      simp only [↓reduceIte]
      refine tail _ r0 led1 f0 ?_ ?_
      · intro b s1 Q' q
        cases b <;> first | exact wpAny_pure q | exact wpAny_rule q
      · intro h' q
        dsimp only
        exact wpAny_pure q
end
end XD

set_option maxRecDepth 100000
set_option maxHeartbeats 4000000
/-! items: tuples of whole numbers and texts -/
namespace XD
open PySem PySem.Spec PyProof.Rows L2

section
variable (P : Program) (w : World)
abbrev hT (ks : List Key) : Int := tupleKeyHash (mixKind P w) ks
abbrev isT (h : Heap) (ks : List Key) (b : Addr) : Prop := IsTupleKey (mixKind P w) h ks b
end

section
variable {P : Program} {w : World} {A : Around} {E : Value → Shared → Prop} {s : Shared}
theorem isT_up {h h' : Heap} {ks : List Key} {b : Addr} (x : isT P w h ks b) (k : ∀ c o, h.get? c = some o → h'.get? c = some o) : isT P w h' ks b :=
  let ⟨o, its, n, e, q⟩ := x
  ⟨o, its, n, k b o e, q⟩
theorem isT_off {h h' : Heap} {ks : List Key} {a b : Addr} {o : Obj} {es : Array (Int × Value)} {ep : Nat} {t : SetTable} (x : isT P w h ks b) (ho : h.get? a = some o) (hd : o.data = .set es ep t) (sb : Heap.SameBut a h h') : isT P w h' ks b := by
  obtain ⟨ob, its, n, e, c, d, q⟩ := x
  refine ⟨ob, its, n, (sb.2 b fun z => ?_).trans e, c, d, q⟩
  rw [z, ho] at e
  cases e
  rw [hd] at d
  cases d
/-- what is asked of the items of a tuple -/
theorem leaves {ks : List Key} {vs : List Value} (h : ItemsAre (mixKind P w) ks vs) : ∀ v ∈ vs, (∀ n, ofAClassStatement n v = pure false) ∧ ∃ b : Bool, ∀ n, hashByValue n v = pure b := by
  induction h with
  | nil => exact fun _ m => nomatch m
  | cons h1 _ ih =>
    intro v m
    rcases List.mem_cons.mp m with e | m
    · subst e
      rcases keyIs_shape h1 with ⟨i, t, _, e⟩ | ⟨x, t, _, e⟩
      · subst e
        exact ⟨fun n => by cases n <;> rfl, true, fun n => by cases n <;> rfl⟩
      · subst e
        exact ⟨fun n => by cases n <;> rfl, false, fun n => by cases n <;> rfl⟩
    · exact ih v m
theorem no_class {ks : List Key} {b : Addr} {Q : Bool → Shared → Prop} (hk : isT P w s.heap ks b) (q : Q false s) : wpAny (model P w) A (ofAClassStatement 8 (.ref b)) Q E s := by
  have ty := hk.typeIs
  obtain ⟨o, its, n, ho, _, hd, hi⟩ := hk
  have lv := leaves hi
  unfold ofAClassStatement
  refine wpAny_bind (wpAny_typeOf ty ?_)
  dsimp only
  simp only [show (("tuple" : String) == "tuple") = true by decide, if_true, Bool.not_true, Bool.false_eq_true, if_false]
  try refine wpAny_bind (wpAny_pure ?_)
  try simp only [Bool.not_true, Bool.false_eq_true, if_false]
  show wpAny _ _ (seqItems? (.ref b) >>= _) _ _ s
  refine wpAny_bind (wpAny_seqItems ho hd ?_)
  dsimp only
  refine wpAny_bind ?_
  show wpAny _ _ (forIn its _ _) _ _ s
  rw [← Array.forIn_toList]
  refine wpAny_forIn_list _ (fun more r s' => (r.1 = none ∧ s' = s) ∧ ∀ v ∈ more, ∀ n, ofAClassStatement n v = pure false) _ ?_ ?_ _ _ ⟨⟨rfl, rfl⟩, fun v m => (lv v m).1⟩
  · rintro v more r s' ⟨⟨hr, rfl⟩, all⟩
    rw [all v List.mem_cons_self]
    refine wpAny_bind (wpAny_pure ?_)
    simp only [Bool.false_eq_true, if_false]
    exact wpAny_pure ⟨⟨rfl, rfl⟩, fun u m => all u (List.mem_cons_of_mem _ m)⟩
  · rintro ⟨r1, r2⟩ s' ⟨⟨hr, rfl⟩, _⟩
    cases hr
    exact wpAny_pure q
theorem by_value {ks : List Key} {b : Addr} {Q : Bool → Shared → Prop} (hk : isT P w s.heap ks b) (q : ∀ c, Q c s) : wpAny (model P w) A (hashByValue 8 (.ref b)) Q E s := by
  have ty := hk.typeIs
  obtain ⟨o, its, n, ho, _, hd, hi⟩ := hk
  have lv := leaves hi
  unfold hashByValue
  refine wpAny_bind (wpAny_specialOf ty F.slot_tuple_hash.lookup ?_)
  show wpAny _ _ (seqItems? (.ref b) >>= _) _ _ s
  refine wpAny_bind (wpAny_seqItems ho hd (wpAny_bind ?_))
  show wpAny _ _ (forIn its _ _) _ _ s
  rw [← Array.forIn_toList]
  refine wpAny_forIn_list _ (fun more r s' => (r.1 = none ∧ s' = s) ∧ ∀ v ∈ more, ∃ b : Bool, ∀ n, hashByValue n v = pure b) _ ?_ ?_ _ _ ⟨⟨rfl, rfl⟩, fun v m => (lv v m).2⟩
  · rintro v more r s' ⟨⟨hr, rfl⟩, all⟩
    obtain ⟨c, hc⟩ := all v List.mem_cons_self
    rw [hc]
    refine wpAny_bind (wpAny_pure ?_)
    cases c with
    | true =>
      simp only [Bool.not_true, Bool.false_eq_true, if_false]
      exact wpAny_pure ⟨⟨rfl, rfl⟩, fun u m => all u (List.mem_cons_of_mem _ m)⟩
    | false =>
      simp only [Bool.not_false, if_true]
      exact wpAny_pure (wpAny_pure (q _))
  · rintro ⟨r1, r2⟩ s' ⟨⟨hr, rfl⟩, _⟩
    cases hr
    exact wpAny_pure (q _)
/-- a search among tuples shows nothing -/
theorem unseen {ks : List Key} {b : Addr} {ys : List Value} {Q : Bool → Shared → Prop} (hk : isT P w s.heap ks b) (hy : ∀ y ∈ ys, ∃ c ks', y = Value.ref c ∧ isT P w s.heap ks' c) (q : Q false s) :
    wpAny (model P w) A (searchCouldBeSeen (.ref b) ys) Q E s := by
  unfold searchCouldBeSeen
  refine wpAny_bind ?_
  refine wpAny_forIn_list _ (fun more r s' => (r.1 = none ∧ s' = s) ∧ ∀ y ∈ more, ∃ c ks', y = Value.ref c ∧ isT P w s.heap ks' c) _ ?_ ?_ _ _ ⟨⟨rfl, rfl⟩, hy⟩
  · rintro y more r s' ⟨⟨hr, rfl⟩, all⟩
    obtain ⟨c, ks', rfl, hc⟩ := all y List.mem_cons_self
    have next : ∀ y ∈ more, ∃ c ks', y = Value.ref c ∧ isT P w s'.heap ks' c := fun u m => all u (List.mem_cons_of_mem _ m)
    dsimp only
    by_cases same : (b == c || (carriedByValue (.ref b) && carriedByValue (.ref c))) = true
    · exact wp_if_pos same (wpAny_pure ⟨⟨rfl, rfl⟩, next⟩)
    · refine wp_if_neg same (wpAny_bind (wpAny_eqIsQuiet_tuple hk ?_))
      simp only [Bool.not_true, Bool.false_eq_true, if_false]
      refine wpAny_bind (wpAny_eqIsQuiet_tuple hc ?_)
      simp only [Bool.not_true, Bool.false_eq_true, if_false]
      refine wpAny_bind (no_class hk ?_)
      simp only [Bool.false_eq_true, if_false]
      refine wpAny_bind (no_class hc ?_)
      simp only [Bool.false_eq_true, if_false]
      exact wpAny_pure ⟨⟨rfl, rfl⟩, next⟩
  · rintro ⟨r1, r2⟩ s' ⟨⟨hr, rfl⟩, _⟩
    cases hr
    exact wpAny_pure q
end

section
variable (P : Program) (w : World)
/-- tuples of numbers and texts as items -/
def kT : ItK P w (List Key) where
  it := fun h v ks => ∃ b, v = .ref b ∧ isT P w h ks b
  hash := hT P w
  one := by
    rintro h v d d' ⟨b, rfl, x⟩ ⟨b', e, x'⟩
    cases e
    exact x.inj x'
  keep := fun ⟨b, e, x⟩ k => ⟨b, e, isT_up x k⟩
  off := fun ⟨b, e, x⟩ ho hd sb => ⟨b, e, isT_off x ho hd sb⟩
  ex := fun t hs => TabOk t hs ∧ hs.length * 5 < t.mask * 3
  ex0 := fun b => ⟨⟨.nil, rfl, rfl, .inl rfl, fun _ m => (nomatch m), fun i h j hi => by simp at hi⟩, by show 0 * 5 < 7 * 3; decide⟩
  hashes := by
    rintro A E s v d Q hu ⟨b, rfl, x⟩ q
    exact wpAny_pyHash_tuple hu x (q _ (Nat.le_add_right _ _))
end

abbrev pr (m : Nat) (h : Int) (c : Nat) : SetTable.Probe := nth m (runAt m (SetTable.bits h % (m + 1)) (SetTable.bits h)) c
theorem pr_clean (m : Nat) (h : Int) (c : Nat) : (pr m h c).dummy = none := by
  have go : ∀ (n : Nat) (p : SetTable.Probe), p.dummy = none → (nth m p n).dummy = none := by
    intro n
    induction n with
    | zero => exact fun _ e => e
    | succ n ih =>
      intro p e
      refine ih (adv m p) ?_
      unfold adv
      split <;> exact e
  exact go c _ rfl
theorem pr_add (m : Nat) (h : Int) (c q : Nat) : nth m (pr m h c) q = pr m h (c + q) := (nth_add m c _ q).symm

section
variable {P : Program} {w : World} {A : Around} {E : Value → Shared → Prop} {s : Shared} {a : Addr} {L : List (Value × List Key)} {es : Array (Int × Value)} {ep : Nat} {t : SetTable}
theorem entryB (B : SetB (kT P w) s.heap a L es ep t) {i : Nat} {p : Value × List Key} (h : L[i]? = some p) : es[i]? = some (hT P w p.2, p.1) := by
  rw [← Array.getElem?_toList, B.rows, List.getElem?_map, h]
  rfl
theorem seek (B : SetB (kT P w) s.heap a L es ep t) {b : Addr} {ks : List Key} (hb : isT P w s.heap ks b) (hu : A.units < cLine) {K : Nat} (few : K < 10 * SetTable.turns t.mask)
    (free : way t.mask (hT P w ks) K ∉ t.place.toList) (full : ∀ c, c < K → way t.mask (hT P w ks) c ∈ t.place.toList) {Q : SetFound → Shared → Prop}
    (old : ks ∈ L.map Prod.snd → Q (.there none) s) (new : ks ∉ L.map Prod.snd → Q (.free (way t.mask (hT P w ks) K) false) s) :
    ∀ (f c : Nat) (from_ : Option SetTable.Probe), from_.getD (t.probeStart (hT P w ks)) = pr t.mask (hT P w ks) c → c ≤ K → K - c < f →
      (∀ (i : Nat) p, L[i]? = some p → p.2 = ks → ∃ c1, c ≤ c1 ∧ c1 < K ∧ t.place.toList[i]? = some (way t.mask (hT P w ks) c1)) →
      wpAny (model P w) A (setSearchFrom a (.ref b) (hT P w ks) true f from_) Q E s := by
  obtain ⟨o, ho, hex, hd⟩ := B.ob
  obtain ⟨T, room⟩ := B.ex
  have sz : t.place.toList.length = L.length := by
    rw [Array.length_toList, T.sz, List.length_map]
  intro f
  induction f with
  | zero => exact fun c _ _ _ hf _ => absurd hf (Nat.not_lt_zero _)
  | succ f ih =>
    intro c from_ hst hc hf hre
    rw [setSearchFrom_succ]
    refine wpAny_bind (wpAny_setState_of ho hd B.fits ?_)
    dsimp only
    refine wp_if_neg (by
      unfold SetTable.gaveWay
      rw [mask_odd T.mok]
      decide) ?_
    try refine wpAny_bind (wpAny_pure ?_)
    have js : ∀ q, (nth t.mask (pr t.mask (hT P w ks) c) q).j = way t.mask (hT P w ks) (c + q) := fun q => congrArg SetTable.Probe.j (pr_add t.mask (hT P w ks) c q)
    have spec := go_spec t T.ris T.dm (fun i => (es[i]?.map (·.1)).getD 0) (hT P w ks) (10 * SetTable.turns t.mask) (K - c) _ (pr_clean t.mask (hT P w ks) c) (by omega)
      (fun q hq => by rw [js]; exact full (c + q) (by omega)) (by rw [js, show c + (K - c) = K by omega]; exact free)
    have hashes : ∀ (i : Nat) p, L[i]? = some p → (fun i => (es[i]?.map (·.1)).getD 0) i = hT P w p.2 := by
      intro i p hp
      show (es[i]?.map (·.1)).getD 0 = _
      rw [entryB B hp]
      rfl
    rcases spec with ⟨q, i, hq, hi, hh, hno, hpr⟩ | ⟨hno, hpr⟩
    · rw [js] at hi
      rw [js, pr_add] at hpr
      have il : i < L.length := by
        rw [← sz]
        exact (List.getElem?_eq_some_iff.mp hi).1
      obtain ⟨p, hp⟩ : ∃ p, L[i]? = some p := ⟨_, List.getElem?_eq_getElem il⟩
      obtain ⟨b1, e1, hb1⟩ := B.its p (List.mem_of_getElem? hp)
      have ent := entryB B hp
      rw [e1] at ent
      have live : t.slot (way t.mask (hT P w ks) (c + q)) = .live i := slot_live T.ris hi
      have more : wpAny (model P w) A (searchRest a (.ref b) (hT P w ks) true f es t (way t.mask (hT P w ks) (c + q)) i (pr t.mask (hT P w ks) (c + (q + 1)))) Q E s := by
        unfold searchRest
        rw [ent]
        dsimp only
        refine wpAny_bind (wpAny_holding (wpAny_eqBool_tuple hu hb1 hb ?_))
        refine wpAny_bind (wpAny_setState_of ho hd B.fits ?_)
        dsimp only
        by_cases eq : p.2 = ks
        · exact wp_if_pos (by simp [eq]) (wpAny_pure (old (List.mem_map.mpr ⟨p, List.mem_of_getElem? hp, eq⟩)))
        · refine wp_if_neg (by simp [eq]) ?_
          try refine wpAny_bind (wpAny_pure ?_)
          rw [sameMem]
          dsimp only
          simp only [if_true, live, ent]
          refine wpAny_bind (wpAny_isSame_ref_self (wpAny_bind (wpAny_pure ?_)))
          simp only [if_true]
          refine wp_if_neg (by simp [eq]) ?_
          refine ih (c + (q + 1)) _ rfl (by omega) (by omega) fun i0 p0 h0 e0 => ?_
          obtain ⟨c1, a1, a2, a3⟩ := hre i0 p0 h0 e0
          refine ⟨c1, ?_, a2, a3⟩
          have b1 : ¬ c1 < c + q := fun z => hno (c1 - c) i0 (by omega) (by rw [js, show c + (c1 - c) = c1 by omega]; exact a3) ((hashes i0 p0 h0).trans (congrArg (hT P w) e0))
          have b2 : c1 ≠ c + q := fun z => by
            rw [z] at a3
            have l0 := slot_live T.ris a3
            rw [live] at l0
            injection l0 with l0
            rw [← l0, hp] at h0
            exact eq ((congrArg Prod.snd (Option.some.inj h0)).trans e0)
          omega
      have hpr2 : t.probe (fun i => (es[i]?.map (·.1)).getD 0) (hT P w ks) (from_.getD (t.probeStart (hT P w ks))) = some (.candidate (way t.mask (hT P w ks) (c + q)) i (pr t.mask (hT P w ks) (c + (q + 1)))) := by
        rw [hst]
        exact hpr
      rw [hpr2]
      dsimp only
      by_cases hl : t.led = true
      · refine wp_if_neg (by simp [hl]) ?_
        try refine wpAny_bind (wpAny_pure ?_)
        exact more
      · refine wp_if_pos (by simp [hl]) (wpAny_bind (unseen hb (fun y hy => ?_) ?_))
        · obtain ⟨e, he, rfl⟩ := List.mem_map.mp hy
          have he1 : e ∈ es ∧ e.1 = hT P w ks := by simpa using he
          have he2 : e ∈ es.toList := by simpa using he1.1
          rw [B.rows] at he2
          obtain ⟨p2, hp2, rfl⟩ := List.mem_map.mp he2
          obtain ⟨b2, e2, h2⟩ := B.its p2 hp2
          exact ⟨b2, p2.2, e2, h2⟩
        · refine wp_if_neg (by decide) ?_
          try refine wpAny_bind (wpAny_pure ?_)
          exact more
    · rw [js, show c + (K - c) = K by omega] at hpr
      have hpr2 : t.probe (fun i => (es[i]?.map (·.1)).getD 0) (hT P w ks) (from_.getD (t.probeStart (hT P w ks))) = some (.empty (way t.mask (hT P w ks) K) none) := by
        rw [hst]
        exact hpr
      rw [hpr2]
      dsimp only
      refine wpAny_pure (new fun m => ?_)
      obtain ⟨p0, m0, e0⟩ := List.mem_map.mp m
      obtain ⟨i0, l0, g0⟩ := List.getElem_of_mem m0
      have h0 : L[i0]? = some p0 := by rw [List.getElem?_eq_getElem l0, g0]
      obtain ⟨c1, a1, a2, a3⟩ := hre i0 p0 h0 e0
      exact hno (c1 - c) i0 (by omega) (by rw [js, show c + (c1 - c) = c1 by omega]; exact a3) ((hashes i0 p0 h0).trans (congrArg (hT P w) e0))
theorem seek_all (B : SetB (kT P w) s.heap a L es ep t) {b : Addr} {ks : List Key} (hb : isT P w s.heap ks b) (hu : A.units < cLine) {Q : SetFound → Shared → Prop} (old : ks ∈ L.map Prod.snd → Q (.there none) s)
    (new : ∀ K, ks ∉ L.map Prod.snd → way t.mask (hT P w ks) K ∉ t.place.toList → (∀ c, c < K → way t.mask (hT P w ks) c ∈ t.place.toList) → Q (.free (way t.mask (hT P w ks) K) false) s) :
    wpAny (model P w) A (setSearch a (.ref b) (hT P w ks) true) Q E s := by
  obtain ⟨T, room⟩ := B.ex
  obtain ⟨K, k1, k2, k3⟩ := T.first (by omega) (hT P w ks)
  have big : 10 * SetTable.turns t.mask ≤ 1420 := by
    unfold SetTable.turns
    rcases T.mok with e | e | e <;> omega
  unfold setSearch
  refine seek B hb hu k1 k2 k3 old (fun n => new K n k2 k3) 100000 0 none rfl (Nat.zero_le _) (by omega) fun i p hp e => ?_
  have hi : (L.map fun p => hT P w p.2)[i]? = some (hT P w ks) := by
    rw [List.getElem?_map, hp, ← e]
    rfl
  have il : i < t.place.toList.length := by
    rw [Array.length_toList, T.sz, List.length_map]
    exact (List.getElem?_eq_some_iff.mp hp).1
  have hj := List.getElem?_eq_getElem il
  obtain ⟨c, c1, c2⟩ := T.before k2 hi hj
  exact ⟨c, Nat.zero_le _, c1, by rw [hj, c2]⟩
end
end XD

set_option maxRecDepth 100000
set_option maxHeartbeats 4000000
/-! adding tuples -/
namespace XD
open PySem PySem.Spec PyProof.Rows L2

theorem insert_perm {α : Type} (L : List α) (n : Nat) (x : α) : (L.take n ++ x :: L.drop n).Perm (x :: L) := by
  have q : (L.take n ++ x :: L.drop n).Perm (x :: (L.take n ++ L.drop n)) := List.perm_middle
  rwa [List.take_append_drop] at q
/-- entries by an order of their places -/
theorem by_order {α β : Type} {f : α → β} {l : List α} {es : Array β} {order : Array Nat} (e : es.toList = l.map f) (p : order.toList.Perm (List.range l.length)) :
    ∃ l2 : List α, (order.filterMap (es[·]?)).toList = l2.map f ∧ l2.Perm l ∧ l2.map some = order.toList.map fun i => l[i]? := by
  have at_ : ∀ i, es[i]? = (l[i]?).map f := fun i => by rw [← Array.getElem?_toList, e, List.getElem?_map]
  have go : ∀ (is : List Nat), (∀ i ∈ is, i < l.length) → ∃ l2 : List α, is.filterMap (fun i => es[i]?) = l2.map f ∧ l2 = is.filterMap (fun i => l[i]?) ∧ l2.map some = is.map fun i => l[i]? := by
    intro is
    induction is with
    | nil => exact fun _ => ⟨[], rfl, rfl, rfl⟩
    | cons i is ih =>
      intro h
      obtain ⟨l2, e1, e2, e3⟩ := ih fun j m => h j (List.mem_cons_of_mem _ m)
      have hi := List.getElem?_eq_getElem (h i List.mem_cons_self)
      refine ⟨l[i]'(h i List.mem_cons_self) :: l2, ?_, ?_, ?_⟩
      · rw [List.filterMap_cons_some (b := f (l[i]'(h i List.mem_cons_self))) (by rw [at_, hi]; rfl), e1]
        rfl
      · rw [List.filterMap_cons_some hi, ← e2]
      · rw [List.map_cons, List.map_cons, hi, e3]
  obtain ⟨l2, e1, e2, e3⟩ := go order.toList fun i m => List.mem_range.mp (p.mem_iff.mp m)
  refine ⟨l2, by simpa using e1, ?_, e3⟩
  have r : (List.range l.length).filterMap (fun i => l[i]?) = l := by
    have q : ∀ n, n ≤ l.length → (List.range n).filterMap (fun i => l[i]?) = l.take n := by
      intro n
      induction n with
      | zero => exact fun _ => rfl
      | succ n ih =>
        intro hn
        have hi := List.getElem?_eq_getElem (Nat.lt_of_succ_le hn)
        rw [List.range_succ, List.filterMap_append, ih (by omega), List.take_add_one, hi, List.filterMap_cons_some hi]
        rfl
    rw [q _ (Nat.le_refl _), List.take_length]
  have s := p.filterMap fun i => l[i]?
  rw [r, ← e2] at s
  exact s

section
variable {P : Program} {w : World} {A : Around} {E : Value → Shared → Prop} {s : Shared} {a : Addr} {L : List (Value × List Key)} {es : Array (Int × Value)} {ep : Nat} {t : SetTable}
theorem fitsT (T : TabOk t (L.map fun p => hT P w p.2)) (n : es.size = L.length) (r : L.length ≤ t.mask) : t.fits es.size = true := by
  have q := T.sz
  rw [List.length_map] at q
  unfold SetTable.fits SetTable.fill
  rw [T.dm, Bool.and_eq_true, beq_iff_eq, decide_eq_true_eq]
  show t.place.size = es.size ∧ t.place.size + 0 ≤ t.mask
  omega
/-- the table is laid anew, larger -/
theorem relayT {o : Obj} (ho : s.heap.get? a = some o) (hx : o.ExactSet) (hd : o.data = .set es ep t) (rows : es.toList = L.map fun p => (hT P w p.2, p.1)) (T : TabOk t (L.map fun p => hT P w p.2)) (full : L.length ≤ t.mask)
    (nd : (L.map Prod.snd).Nodup) (its : ∀ p ∈ L, (kT P w).it s.heap p.1 p.2) (led : w.params.followText "set-order" = true ∨ t.led = true) (few : L.length < 64) {wanted M : Nat} (w1 : SetTable.sizeAbove wanted - 1 = M) (hM : MaskOk M)
    (w2 : SetTable.sizeAbove wanted ≤ 128) (w3 : L.length * 5 < M * 3) {Q : Unit → Shared → Prop}
    (hQ : ∀ h' L' es' ep' t', Heap.SameBut a s.heap h' → SetB (kT P w) h' a L' es' ep' t' → L'.Perm L → Q () { s with heap := h' }) : wpAny (model P w) A (setRelay a wanted) Q E s := by
  have n : es.size = L.length := by
    have q := congrArg List.length rows
    rwa [Array.length_toList, List.length_map] at q
  obtain ⟨t', order, e, hp, T', m', l', _, _⟩ := relaid_ok t (hs := es.map (·.1)) (wanted := wanted) w1 hM (by rw [Array.size_map, n]; omega)
  rw [Array.size_map, n] at hp
  obtain ⟨L2, r1, r2, r3⟩ := by_order rows hp
  have hash2 : order.toList.map (fun i => (es.map (·.1)).getD i 0) = L2.map fun p => hT P w p.2 := by
    have q := congrArg (List.map fun x : Option (Value × List Key) => (x.map fun p => hT P w p.2).getD 0) r3
    rw [List.map_map, List.map_map] at q
    refine Eq.trans ?_ q.symm
    refine List.map_congr_left fun i m => ?_
    show (es.map (·.1)).getD i 0 = ((L[i]?).map fun p => hT P w p.2).getD 0
    have at_ : es[i]? = (L[i]?).map fun p => (hT P w p.2, p.1) := by rw [← Array.getElem?_toList, rows, List.getElem?_map]
    rw [Array.getD_eq_getD_getElem?, Array.getElem?_map, at_, Option.map_map]
    rfl
  rw [hash2] at T'
  have n2 : (order.filterMap (es[·]?)).size = L.length := by
    rw [← Array.length_toList, r1, List.length_map, r2.length_eq]
  rw [setRelay_eq]
  refine wpAny_bind (wpAny_setState_of ho hd (fitsT T n full) ?_)
  dsimp only
  refine wp_if_neg (by rw [sizeLine_eq]; omega) ?_
  try refine wpAny_bind (wpAny_pure ?_)
  rw [e]
  dsimp only
  refine wpAny_bind ?_
  refine wp_if_neg (by rw [n2, n]; simp) ?_
  try refine wpAny_bind (wpAny_pure ?_)
  refine wpAny_pure ?_
  dsimp only
  refine wpAny_storeSet_of ho hd ?_ (by rw [n2, sizeLine_eq]; omega)
  have sb : Heap.SameBut a s.heap (s.heap.update a (Obj.putSet (order.filterMap (es[·]?)) t')) := .update ..
  refine hQ _ L2 (order.filterMap (es[·]?)) (ep + 1) t' sb ?_ r2
  exact { ob := ⟨_, store_at ho hd, hx, rfl⟩, rows := r1, nd := (r2.map Prod.snd).nodup_iff.mpr nd, its := fun p m => (kT P w).off (its p (r2.mem_iff.mp m)) ho hd sb, ris := T'.ris, led := by rw [l']; exact led,
          fits := fitsT T' (by rw [n2, r2.length_eq]) (by rw [r2.length_eq, m']; omega), few := by rw [r2.length_eq]; exact few, ex := ⟨T', by show (L2.map _).length * 5 < t'.mask * 3; rw [List.length_map, r2.length_eq, m']; exact w3⟩ }

theorem adds_kT : Adds (kT P w) := by
  rintro A E s a L es ep t x ks Q hu B ⟨b, rfl, hb⟩ few hQ
  obtain ⟨o, ho, hex, hd⟩ := B.ob
  obtain ⟨T, room⟩ := B.ex
  rw [List.length_map] at room
  have n := B.size
  show wpAny _ _ (setAddHashed a (.ref b) (hT P w ks)) _ _ _
  unfold setAddHashed
  refine wpAny_holding ?_
  rw [show (100000 : Nat) = 99999 + 1 from rfl, setAddHashedIn_succ]
  refine wpAny_bind (wpAny_setState_of ho hd B.fits ?_)
  dsimp only
  refine wp_if_neg (by simp [byScan, Value.scannable]) ?_
  try refine wpAny_bind (wpAny_pure ?_)
  refine wpAny_bind (seek_all B hb hu (fun m => ?_) fun K m free full => ?_)
  · dsimp only
    exact wpAny_pure (hQ false s.heap L es ep t (.refl a s.heap) B (fun _ => rfl) fun z => absurd m z)
  · dsimp only
    refine wpAny_bind (wpAny_setState_of ho hd B.fits ?_)
    dsimp only
    obtain ⟨q1, q2, q3, q4, q5, q6, q7, q8, q9⟩ := T.put free full
    rw [List.length_map] at q2 q9
    generalize t.put (way t.mask (hT P w ks) K) = pt at q1 q3 q4 q5 q6 q7 q8 q9 ⊢
    obtain ⟨t1, n1⟩ := pt
    dsimp only at q1 q3 q4 q5 q6 q7 q8 q9 ⊢
    rw [← q1] at q2 q3
    clear q1
    have rows1 : (SetTable.insertAt es n1 (hT P w ks, Value.ref b)).toList = (L.take n1 ++ (Value.ref b, ks) :: L.drop n1).map fun p => (hT P w p.2, p.1) := by
      rw [SetTable.toList_insertAt, B.rows, List.map_append, List.map_cons, List.map_take, List.map_drop]
      rfl
    have p1 := insert_perm L n1 (Value.ref b, ks)
    have hs1 : (L.take n1 ++ (Value.ref b, ks) :: L.drop n1).map (fun p => hT P w p.2) = (L.map fun p => hT P w p.2).take n1 ++ hT P w ks :: (L.map fun p => hT P w p.2).drop n1 := by
      rw [List.map_append, List.map_cons, List.map_take, List.map_drop]
    rw [show ((L.map fun p => (kT P w).hash p.2).take n1 ++ hT P w ks :: (L.map fun p => (kT P w).hash p.2).drop n1) = _ from hs1.symm] at q3
    generalize L.take n1 ++ (Value.ref b, ks) :: L.drop n1 = L1 at rows1 p1 q3
    generalize SetTable.insertAt es n1 (hT P w ks, Value.ref b) = es1 at rows1 ⊢
    have len1 : L1.length = L.length + 1 := p1.length_eq
    have size1 : es1.size = L1.length := by
      rw [← Array.length_toList, rows1, List.length_map]
    have nd1 : (L1.map Prod.snd).Nodup := (p1.map Prod.snd).nodup_iff.mpr (List.nodup_cons.mpr ⟨m, B.nd⟩)
    have rest : ∀ t2 : SetTable, TabOk t2 (L1.map fun p => hT P w p.2) → t2.mask = t.mask → t2.led = t.led → t2.fill = L.length + 1 → wpAny (model P w) A (do
          storeSet a es1 t2
          if (!false && t2.tooFull) = true then do
              setRelay a (SetTable.grown (es.size + 1))
              pure true
            else pure true) Q E s := by
      intro t2 T2 m2 l2 f2
      have sb : Heap.SameBut a s.heap (s.heap.update a (Obj.putSet es1 t2)) := .update ..
      have ho1 := store_at (es' := es1) (t' := t2) ho hd
      have led2 : w.params.followText "set-order" = true ∨ t2.led = true := by
        rw [l2]
        exact B.led
      have its1 : ∀ p ∈ L1, (kT P w).it (s.heap.update a (Obj.putSet es1 t2)) p.1 p.2 := by
        intro p hp
        rcases List.mem_cons.mp (p1.mem_iff.mp hp) with e | hp
        · rw [e]
          exact ⟨b, rfl, isT_off hb ho hd sb⟩
        · exact (kT P w).off (B.its p hp) ho hd sb
      refine wpAny_bind (wpAny_storeSet_of ho hd ?_ (by rw [size1, len1, sizeLine_eq]; omega))
      by_cases hf : t2.tooFull = true
      · refine wp_if_pos (by simp [hf]) (wpAny_bind ?_)
        have full2 : t.mask * 3 ≤ (L.length + 1) * 5 := by
          unfold SetTable.tooFull at hf
          rw [decide_eq_true_eq, f2, m2] at hf
          exact hf
        rw [n]
        have two : (t.mask = 7 ∧ L.length = 4) ∨ (t.mask = 31 ∧ L.length = 18) := by
          rcases T.mok with e | e | e
          · left
            rw [e] at full2 room
            exact ⟨e, by omega⟩
          · right
            rw [e] at full2 room
            exact ⟨e, by omega⟩
          · rw [e] at full2 room
            omega
        have go : ∀ M, SetTable.sizeAbove (SetTable.grown (L.length + 1)) - 1 = M → MaskOk M → SetTable.sizeAbove (SetTable.grown (L.length + 1)) ≤ 128 → (L.length + 1) * 5 < M * 3 →
            wpAny (model P w) A (setRelay a (SetTable.grown (L.length + 1))) (fun _ s' => wpAny (model P w) A (pure true) Q E s') E { s with heap := s.heap.update a (Obj.putSet es1 t2) } := by
          intro M g1 g2 g3 g4
          refine relayT (s := { s with heap := s.heap.update a (Obj.putSet es1 t2) }) ho1 ⟨hex.1, hex.2.1, hex.2.2⟩ rfl rows1 T2 (by rw [len1, m2]; rcases two with ⟨e, e2⟩ | ⟨e, e2⟩ <;> omega) nd1 its1 led2 (by rw [len1]; exact few) g1 g2 g3 (by rw [len1]; exact g4) ?_
          intro h2 L2 es2 ep2 t3 sb2 B2 p2
          exact wpAny_pure (hQ true h2 L2 es2 ep2 t3 (sb.trans sb2) B2 (fun z => absurd z m) fun _ => p2.trans p1)
        rcases two with ⟨_, e2⟩ | ⟨_, e2⟩
        · exact go 31 (by rw [e2, size_20]) (.inr (.inl rfl)) (by rw [e2, size_20]; decide) (by omega)
        · exact go 127 (by rw [e2, size_76]) (.inr (.inr rfl)) (by rw [e2, size_76]; decide) (by omega)
      · refine wp_if_neg (by simp [hf]) (wpAny_pure ?_)
        have room2 : (L.length + 1) * 5 < t.mask * 3 := by
          unfold SetTable.tooFull at hf
          rw [decide_eq_true_eq, f2, m2] at hf
          omega
        refine hQ true _ L1 es1 (ep + 1) t2 sb ?_ (fun z => absurd z m) fun _ => p1
        exact { ob := ⟨_, ho1, ⟨hex.1, hex.2.1, hex.2.2⟩, rfl⟩, rows := rows1, nd := nd1, its := its1, ris := T2.ris, led := led2, fits := fitsT T2 size1 (by rw [len1, m2]; omega), few := by rw [len1]; exact few,
                ex := ⟨T2, by show (L1.map _).length * 5 < t2.mask * 3; rw [List.length_map, len1, m2]; exact room2⟩ }
    have off : TabOk { t1 with plain := false } (L1.map fun p => hT P w p.2) := ⟨q3.ris, q3.dm, q3.sz, q3.mok, q3.bd, q3.reach⟩
    by_cases hp : t1.plain = true
    · first
        | (refine wpAny_bind ?_; refine wp_if_pos hp ?_; refine by_value hb fun c => ?_)
        | refine wp_if_pos hp (wpAny_bind (by_value hb fun c => ?_))
      cases c with
      | true => exact rest t1 q3 q4 q5 q9
      | false => exact rest _ off q4 q5 q9
    · first
        | (refine wpAny_bind ?_; refine wp_if_neg hp ?_; refine wpAny_pure ?_)
        | refine wp_if_neg hp (wpAny_bind (wpAny_pure ?_))
      exact rest t1 q3 q4 q5 q9
end
end XD

set_option maxRecDepth 100000
set_option maxHeartbeats 4000000
/-! sorted(set) -/
namespace XD
open PySem PySem.Spec PyProof.Rows L2
open PySem.W (SortsAt dataKind AllAlike EachIs sortVals sortLe sortingHeap list_sort_vals sortVals_each dataKind_some keyToks alike sortVals_length)

section
variable {P : Program} {w : World} {A : Around} {E : Value → Shared → Prop} {s : Shared} {D : Type} {κ : ItK P w D}
theorem eachs_of {α β : Type} {R : α → β → Prop} (f : β → α) : ∀ {l : List β}, (∀ p ∈ l, R (f p) p) → EachIs R (l.map f) l
  | [], _ => .nil
  | p :: l, h => .cons (h p List.mem_cons_self) (eachs_of f fun q m => h q (List.mem_cons_of_mem _ m))
theorem eachs_map {α β γ : Type} {R : α → γ → Prop} (f : β → α) (g : β → γ) : ∀ {l : List β}, (∀ p ∈ l, R (f p) (g p)) → EachIs R (l.map f) (l.map g)
  | [], _ => .nil
  | p :: l, h => .cons (h p List.mem_cons_self) (eachs_map f g fun q m => h q (List.mem_cons_of_mem _ m))
theorem each_eq {α : Type} {D : Type} : ∀ {us : List α} {l : List (α × D)}, EachIs (fun u (p : α × D) => u = p.1) us l → us = l.map Prod.fst
  | _, _, .nil => rfl
  | _, _, .cons e t => by rw [List.map_cons, e, each_eq t]

/-- sorted of a set whose items read as alike data -/
theorem sorted_of_set {a : Addr} {L : List (Value × D)} {es : Array (Int × Value)} {ep : Nat} {t : SetTable} {Q : Value → Shared → Prop} (B : SetB κ s.heap a L es ep t) (calm : A.handled = none) (dat : D → PyData)
    (reads : ∀ p ∈ L, ∃ as, Reads s.heap p.1 (dat p.2) as) (S : XC.Srtbl (L.map fun p => dat p.2)) (hu : A.units + 100 < cLine)
    (hQ : ∀ s' p c (L' : List (Value × D)), (∀ b o, s.heap.get? b = some o → s'.heap.get? b = some o) → s'.gens = s.gens → s'.os = s.os → s.heap.objs.size ≤ p →
      s'.heap.get? p = some (seqObj "list" (L'.map Prod.fst).toArray c) → L'.Perm L → (L'.map fun p => dat p.2).Pairwise (fun a b => XC.dle a b = true) → Q (.ref p) s') :
    wpAny (model P w) A (call (.builtin "sorted") [.ref a]) Q E s := by
  obtain ⟨o, ho, hex, hd⟩ := B.ob
  have n := B.size
  have few := B.few
  refine Calls.call_function_entry kind_sorted plain_sorted entry_sorted (args_sorted1 _) ?_
  unfold Builtin.«sorted»
  refine wpAny_bind (m := checkCount "sorted" 1 1 _) (wpAny_pure ?_)
  refine wpAny_bind (collect_set (A := A.in1) calm ⟨o, ho, hex.1, hd⟩ B.fits (by rw [n]; unfold scanBound; omega) B.ris B.led fun s1 vs k1 hz g1 o1 pm => ?_)
  rw [B.rows, List.map_map] at pm
  obtain ⟨L1, p1, e1⟩ := lift_perm (f := fun p : Value × D => p.1) pm L rfl
  subst e1
  have len1 : (L1.map fun p => p.1).length ≤ sizeLine := by
    rw [List.length_map, p1.length_eq, sizeLine_eq]
    omega
  refine wpAny_bind (wpAny_newList ?_ len1)
  have hoL : (s1.heap.push (seqObj "list" (L1.map fun p => p.1).toArray 0)).get? s1.heap.objs.size = some (seqObj "list" (L1.map fun p => p.1).toArray 0) := Heap.get?_push_size _ rfl
  have k2 : ∀ b o, s.heap.get? b = some o → b ≠ s1.heap.objs.size ∧ (s1.heap.push (seqObj "list" (L1.map fun p => p.1).toArray 0)).get? b = some o := by
    intro b ob e
    have e' := k1 b ob e
    exact ⟨Nat.ne_of_lt (Heap.lt_size e'), Heap.get?_push_of_some _ e'⟩
  have rd : ∀ p ∈ L1, ∃ as, Reads (sortingHeap (s1.heap.push (seqObj "list" (L1.map fun p => p.1).toArray 0)) s1.heap.objs.size (L1.map fun p => p.1)) p.1 (dat p.2) as := by
    intro p m
    obtain ⟨as, r⟩ := reads p (p1.mem_iff.mp m)
    exact ⟨as, PyProof.Rows.Reads.keeps (fun b ob e => PySem.W.sortingHeap_old (k2 b ob e).1 (k2 b ob e).2) r⟩
  have perm1 := p1.map fun p => dat p.2
  have al : AllAlike (L1.map fun p => dat p.2) := fun d m d' m' => S.alike d (perm1.mem_iff.mp m) d' (perm1.mem_iff.mp m')
  have dp : ∀ d ∈ L1.map (fun p => dat p.2), A.in1.in1.units + d.depth < cLine := fun d m => by
    have := S.deep d (perm1.mem_iff.mp m)
    show A.units + 1 + 1 + d.depth < cLine
    omega
  have each := eachs_map (R := fun v d => ∃ as, Reads (sortingHeap (s1.heap.push (seqObj "list" (L1.map fun p => p.1).toArray 0)) s1.heap.objs.size (L1.map fun p => p.1)) v d as) (fun p : Value × D => p.1) (fun p => dat p.2) rd
  have SA : SortsAt P w A.in1.in1 { s1 with heap := sortingHeap (s1.heap.push (seqObj "list" (L1.map fun p => p.1).toArray 0)) s1.heap.objs.size (L1.map fun p => p.1) }
      (dataKind (sortingHeap (s1.heap.push (seqObj "list" (L1.map fun p => p.1).toArray 0)) s1.heap.objs.size (L1.map fun p => p.1)) (L1.map fun p => dat p.2)) (L1.map fun p => p.1) := by
    rcases S.kind with k | k
    · exact XB.sorts_tups each al (fun d m => k d (perm1.mem_iff.mp m)) dp
    · exact SortsAt.data each al (.inr fun d m => k d (perm1.mem_iff.mp m)) dp
  refine wpAny_bind (wpAny_holding (wpAny_call_entry slot_list_sort ⟨_, hoL, rfl⟩ entry_list_sort (list_sort_vals (s := { s1 with heap := s1.heap.push (seqObj "list" (L1.map fun p => p.1).toArray 0) }) hoL SA len1 ⟨_, rfl, ?_⟩) (args_list_sort _)))
  have keys : EachIs (fun v (p : Value × D) => (dataKind (sortingHeap (s1.heap.push (seqObj "list" (L1.map fun p => p.1).toArray 0)) s1.heap.objs.size (L1.map fun p => p.1)) (L1.map fun p => dat p.2)).keyOf v = some (keyToks (dat p.2))) (L1.map fun p => p.1) L1 :=
    eachs_of _ fun p m => by
      obtain ⟨as, r⟩ := rd p m
      exact dataKind_some al (List.mem_map.mpr ⟨p, m, rfl⟩) r
  have out := sortVals_each (κ := dataKind (sortingHeap (s1.heap.push (seqObj "list" (L1.map fun p => p.1).toArray 0)) s1.heap.objs.size (L1.map fun p => p.1)) (L1.map fun p => dat p.2)) (rev := false)
    (fun p : Value × D => keyToks (dat p.2)) (eachs_of (R := fun u (p : Value × D) => u = p.1) (fun p : Value × D => p.1) (l := L1) fun _ _ => rfl) keys
  obtain ⟨c, hc⟩ := sortedHeap_at (vs := L1.map fun p => p.1) (out := (sortVals (dataKind (sortingHeap (s1.heap.push (seqObj "list" (L1.map fun p => p.1).toArray 0)) s1.heap.objs.size (L1.map fun p => p.1)) (L1.map fun p => dat p.2)) false (L1.map fun p => p.1) (L1.map fun p => p.1)).toArray) hoL
  refine wpAny_pure ⟨_, rfl, hQ _ s1.heap.objs.size c (L1.mergeSort (sortLe (PyProof.Rows.listOrd PyProof.Rows.itemOrd) false fun p => keyToks (dat p.2))) (fun b u e => ?_) g1 o1 hz ?_ ((List.mergeSort_perm _ _).trans p1) ?_⟩
  · have e' := k1 b u e
    have lt := Heap.lt_size e'
    show (sortedHeap (s1.heap.push (seqObj "list" (L1.map fun p => p.1).toArray 0)) s1.heap.objs.size _ _).get? b = some u
    rw [sortedHeap_old (Nat.ne_of_lt lt) (by rw [size_push']; exact Nat.lt_succ_of_lt lt)]
    exact Heap.get?_push_of_some _ e'
  · exact hc.trans (congrArg (fun l : List Value => some (seqObj "list" l.toArray c)) (each_eq out))
  · rw [PySem.W.sort_maps (r := sortLe (PyProof.Rows.listOrd PyProof.Rows.itemOrd) false fun p : Value × D => keyToks (dat p.2)) (s := XC.dle) (fun p : Value × D => dat p.2) (l := L1) (fun _ _ _ _ => rfl)]
    exact XC.srt_sorted _
end
end XD

set_option maxRecDepth 100000
set_option maxHeartbeats 4000000
/-! sorted(set(e)), len(set(e)) over the layer -/
namespace XD
open PySem PySem.Spec PyProof.Rows L2

def kD : Key → PyData
  | .inl i => .int i
  | .inr x => .str x
def tD (ks : List Key) : PyData := .tuple (ks.map kD)

section
variable {P : Program} {w : World}
theorem rel_of_is {k : Key} {u : Value} (h : (mixKind P w).is k u = true) : RelV (kV k) u := by
  rcases keyIs_shape h with ⟨i, t, rfl, rfl⟩ | ⟨x, t, rfl, rfl⟩
  · exact ⟨t, rfl⟩
  · exact ⟨t, rfl⟩
theorem is_of_rel {k : Key} {u : Value} (h : RelV (kV k) u) : (mixKind P w).is k u = true ∧ u.scannable = true := by
  cases k with
  | inl i =>
    obtain ⟨t, rfl⟩ := h
    exact ⟨keyIs_int i t, rfl⟩
  | inr x =>
    obtain ⟨t, rfl⟩ := h
    exact ⟨keyIs_str x t, rfl⟩
theorem reads_key {h : Heap} {k : Key} {u : Value} (r : (mixKind P w).is k u = true) : ∃ as, Reads h u (kD k) as := by
  rcases keyIs_shape r with ⟨i, t, rfl, rfl⟩ | ⟨x, t, rfl, rfl⟩
  · exact ⟨_, .int i t⟩
  · exact ⟨_, .str x t⟩
theorem reads_keys {h : Heap} : ∀ {ks : List Key} {us : List Value}, ItemsAre (mixKind P w) ks us → ∃ as, ReadsAll h us (ks.map kD) as
  | _, _, .nil => ⟨_, .nil⟩
  | _, _, .cons r t => by
    obtain ⟨as, a⟩ := reads_key (h := h) r
    obtain ⟨bs, b⟩ := reads_keys (h := h) t
    exact ⟨_, .cons a b⟩
theorem reads_tup {h : Heap} {ks : List Key} {b : Addr} (x : isT P w h ks b) : ∃ as, Reads h (.ref b) (tD ks) as := by
  obtain ⟨o, its, n, ho, hc, hd, hi⟩ := x
  obtain ⟨as, r⟩ := reads_keys (h := h) hi
  exact ⟨_, .tuple ho hc hd r⟩
theorem items_keys : ∀ {ks : List Key} {us : List Value}, Vals (ks.map kV) us → ItemsAre (mixKind P w) ks us
  | [], _, .nil => .nil
  | _ :: _, _, .cons r t => .cons (is_of_rel r).1 (items_keys t)
theorem zip_vals : ∀ {ks : List Key} {us : List Value}, Vals (ks.map kV) us → us = (us.zip ks).map Prod.fst ∧ ks = (us.zip ks).map Prod.snd ∧ ∀ p ∈ us.zip ks, (mixKind P w).is p.2 p.1 = true ∧ p.1.scannable = true
  | [], _, .nil => ⟨rfl, rfl, fun _ m => nomatch m⟩
  | k :: ks, _ :: us, .cons r t => by
    obtain ⟨a, b, c⟩ := zip_vals t
    refine ⟨by rw [List.zip_cons_cons, List.map_cons, ← a], by rw [List.zip_cons_cons, List.map_cons, ← b], fun p m => ?_⟩
    rcases List.mem_cons.mp m with e | m
    · rw [e]
      exact is_of_rel r
    · exact c p m
theorem vals_keys : ∀ {L : List (Value × Key)}, (∀ p ∈ L, (mixKind P w).is p.2 p.1 = true) → Vals ((L.map Prod.snd).map kV) (L.map Prod.fst)
  | [], _ => .nil
  | p :: L, h => .cons (rel_of_is (h p List.mem_cons_self)) (vals_keys fun q m => h q (List.mem_cons_of_mem _ m))
end
def addrOf : Value → Addr
  | .ref b => b
  | _ => 0

section
variable {X : Cx}
/-- behind a call that has laid a new list and drawn an order -/
theorem new_list {pins : List (Addr × Obj)} {σ : L2.St} {H : Hp} {s s' : Shared} {vs : List V} {us : List Value} {p : Addr} {c : Nat} {Q : VK} (I : Inv X pins σ H s) (k : ∀ b o, s.heap.get? b = some o → s'.heap.get? b = some o) (g : s'.gens = s.gens)
    (os : s'.os = s.os) (hp : s.heap.objs.size ≤ p) (at_ : s'.heap.get? p = some (seqObj "list" us.toArray c)) (rv : Vals vs us) (few : vs.length ≤ sizeLine) (q : H p = none → Q (.ref p) (upd H p (.lst vs))) : EP X pins σ Q (.ref p) s' := by
  have hn : H p = none := I.hok.fresh hp
  have J : Inv X pins σ (upd H p (.lst vs)) { s with heap := s'.heap, gens := s'.gens, drawn := s'.drawn, toks := s'.toks } :=
    I.call (ch := []) (Un.laid k hp hn) (I.hok.laid k hp ⟨few, us, c, rv, at_⟩) (by rw [g]; exact I.bare) (fun _ z => nomatch z)
  have e : s' = { s with heap := s'.heap, gens := s'.gens, drawn := s'.drawn, toks := s'.toks } := by
    cases s'
    cases s
    cases os
    rfl
  rw [e]
  exact ⟨.ref p, _, J, rfl, q hn⟩

/-- the items of a list or a tuple -/
def Sq (K : PySem.W.Frag) (H : Hp) (l : Addr) (vs : List V) : Prop := SqL K H l vs ∨ SqT K H l vs
/-- set(e) of numbers or texts, then what follows with the set at a: the raw form -/
theorem set_flat {pins : List (Addr × Obj)} {σ : L2.St} {H : Hp} {s : Shared} {l : Addr} {ks : List Key} {R : Value → Shared → Prop} (hc : X.calm = true) (hu : X.A.units + 100 < cLine) (I : Inv X pins σ H s) (hl : Sq X.K H l (ks.map kV)) (few : ks.length < 64)
    (h : ∀ h' tk a L es ep t, Inv X pins σ H { s with heap := h', toks := tk } → SetB (kS X.prog X.w) h' a L es ep t → (∀ k, k ∈ L.map Prod.snd ↔ k ∈ ks) → R (.ref a) { s with heap := h', toks := tk }) :
    wpAny (model X.prog X.w) X.A (call (.type "set") [.ref l]) R X.xe s := by
  have go : ∀ {its : List Value}, Vals (ks.map kV) its → (its.zip ks).length < 64 ∧ its = (its.zip ks).map Prod.fst ∧ (∀ p ∈ its.zip ks, (kS X.prog X.w).it s.heap p.1 p.2) ∧
      ∀ h' tk L es ep t, SetB (kS X.prog X.w) h' s.heap.objs.size L es ep t → Has (its.zip ks) (its.zip ks).length L → (∀ b o, s.heap.get? b = some o → h'.get? b = some o) → R (.ref s.heap.objs.size) { s with heap := h', toks := tk } := by
    intro its rv
    obtain ⟨z1, z2, z3⟩ := zip_vals (P := X.prog) (w := X.w) rv
    refine ⟨?_, z1, z3, fun h' tk L es ep t B g k => h h' tk _ L es ep t (I.kept k) B fun key => ?_⟩
    · have := congrArg List.length z2
      rw [List.length_map] at this
      omega
    · constructor
      · intro m
        obtain ⟨p, hp, rfl⟩ := List.mem_map.mp m
        have := g.sub p hp
        rw [List.take_length] at this
        rw [z2]
        exact List.mem_map.mpr ⟨p, this, rfl⟩
      · intro m
        rw [z2] at m
        obtain ⟨p, hp, rfl⟩ := List.mem_map.mp m
        exact g.all p (by rw [List.take_length]; exact hp)
  rcases hl with hl | hl
  · obtain ⟨its, rv, pl, _⟩ := I.list hl
    obtain ⟨g1, g2, g3, g4⟩ := go rv
    exact set_of_list adds_kS (I.ok.hd hc) pl.isList g2 g3 g1 (by omega) g4
  · obtain ⟨its, rv, pl, _⟩ := I.tuple hl
    obtain ⟨g1, g2, g3, g4⟩ := go rv
    exact set_of_tuple adds_kS (I.ok.hd hc) pl g2 g3 g1 (by omega) g4

/-- a tuple of such keys -/
def TupK (K : PySem.W.Frag) (H : Hp) (p : Addr × List Key) : Prop := SqT K H p.1 (p.2.map kV)
theorem TupK.is {pins : List (Addr × Obj)} {σ : L2.St} {H : Hp} {s : Shared} {p : Addr × List Key} (I : Inv X pins σ H s) (h : TupK X.K H p) : isT X.prog X.w s.heap p.2 p.1 := by
  obtain ⟨its, r, ⟨o, ho, hc, n, hd⟩, _⟩ := I.tuple h
  exact ⟨o, its.toArray, n, ho, hc, hd, by simpa using items_keys r⟩
theorem vals_refs : ∀ {ps : List (Addr × List Key)} {us : List Value}, Vals (ps.map fun p => V.ref p.1) us → us = ps.map fun p => Value.ref p.1
  | [], _, .nil => rfl
  | p :: ps, _, .cons r t => by
    cases r
    rw [vals_refs t]
    rfl
theorem refs_vals : ∀ (ps : List (Addr × List Key)), Vals (ps.map fun p => V.ref p.1) (ps.map fun p => Value.ref p.1)
  | [] => .nil
  | p :: ps => .cons rfl (refs_vals ps)
theorem set_tups {pins : List (Addr × Obj)} {σ : L2.St} {H : Hp} {s : Shared} {l : Addr} {ps : List (Addr × List Key)} {R : Value → Shared → Prop} (hc : X.calm = true) (hu : X.A.units + 100 < cLine) (I : Inv X pins σ H s) (hl : Sq X.K H l (ps.map fun p => V.ref p.1))
    (hp : ∀ p ∈ ps, TupK X.K H p) (few : ps.length < 64)
    (h : ∀ h' tk a (L : List (Addr × List Key)) es ep t, Inv X pins σ H { s with heap := h', toks := tk } → SetB (kT X.prog X.w) h' a (L.map fun p => (Value.ref p.1, p.2)) es ep t → (∀ p ∈ L, p ∈ ps) → (∀ p ∈ ps, p.2 ∈ L.map Prod.snd) →
      R (.ref a) { s with heap := h', toks := tk }) : wpAny (model X.prog X.w) X.A (call (.type "set") [.ref l]) R X.xe s := by
  have e1 : ps.map (fun p => Value.ref p.1) = (ps.map fun p => (Value.ref p.1, p.2)).map Prod.fst := by
    rw [List.map_map]
    rfl
  have its : ∀ p ∈ ps.map (fun p => (Value.ref p.1, p.2)), (kT X.prog X.w).it s.heap p.1 p.2 := by
    intro p m
    obtain ⟨q, hq, rfl⟩ := List.mem_map.mp m
    exact ⟨q.1, rfl, (hp q hq).is I⟩
  have few1 : (ps.map fun p => (Value.ref p.1, p.2)).length < 64 := by
    rw [List.length_map]
    exact few
  have fin : ∀ h' tk L es ep t, SetB (kT X.prog X.w) h' s.heap.objs.size L es ep t → Has (ps.map fun p => (Value.ref p.1, p.2)) (ps.map fun p => (Value.ref p.1, p.2)).length L → (∀ b o, s.heap.get? b = some o → h'.get? b = some o) →
      R (.ref s.heap.objs.size) { s with heap := h', toks := tk } := by
    intro h' tk L es ep t B g k
    have sub : ∀ p ∈ L, p ∈ ps.map fun p => (Value.ref p.1, p.2) := fun p m => List.mem_of_mem_take (g.sub p m)
    have back : L = (L.map fun p => (addrOf p.1, p.2)).map fun p => (Value.ref p.1, p.2) := by
      rw [List.map_map]
      refine Eq.trans (List.map_id L).symm (List.map_congr_left fun p m => ?_)
      obtain ⟨q, _, rfl⟩ := List.mem_map.mp (sub p m)
      rfl
    rw [back] at B
    refine h h' tk _ _ es ep t (I.kept k) B (fun p m => ?_) fun p m => ?_
    · obtain ⟨q, hq, rfl⟩ := List.mem_map.mp m
      obtain ⟨q1, hq1, rfl⟩ := List.mem_map.mp (sub q hq)
      exact hq1
    · have := g.all (Value.ref p.1, p.2) (by rw [List.take_length]; exact List.mem_map.mpr ⟨p, m, rfl⟩)
      obtain ⟨q, hq, e⟩ := List.mem_map.mp this
      exact List.mem_map.mpr ⟨_, List.mem_map.mpr ⟨q, hq, rfl⟩, e⟩
  rcases hl with hl | hl
  · obtain ⟨us, rv, pl, _⟩ := I.list hl
    exact set_of_list adds_kT (I.ok.hd hc) pl.isList ((vals_refs rv).trans e1) its few1 (by omega) fin
  · obtain ⟨us, rv, pl, _⟩ := I.tuple hl
    exact set_of_tuple adds_kT (I.ok.hd hc) pl ((vals_refs rv).trans e1) its few1 (by omega) fin

/-- sorted(set(e)), e of numbers or texts -/
def tSSf (K : PySem.W.Frag) (te : TE) : TE := fun σ H Q => te σ H fun x H1 => ∃ (l : Addr) (ks : List Key), x = .ref l ∧ Sq K H1 l (ks.map kV) ∧ ks.length < 64 ∧ XC.Srtbl (ks.map kD) ∧
  ∀ (out : List Key) (p : Addr), out.Nodup → (∀ k, k ∈ out ↔ k ∈ ks) → (out.map kD).Pairwise (fun a b => XC.dle a b = true) → H1 p = none → Q (.ref p) (upd H1 p (.lst (out.map kV)))
/-- e of tuples -/
def tSSt (K : PySem.W.Frag) (te : TE) : TE := fun σ H Q => te σ H fun x H1 => ∃ (l : Addr) (ps : List (Addr × List Key)), x = .ref l ∧ Sq K H1 l (ps.map fun p => V.ref p.1) ∧ (∀ p ∈ ps, TupK K H1 p) ∧ ps.length < 64 ∧ XC.Srtbl (ps.map fun p => tD p.2) ∧
  ∀ (out : List (Addr × List Key)) (p : Addr), (∀ q ∈ out, q ∈ ps) → (out.map Prod.snd).Nodup → (∀ q ∈ ps, q.2 ∈ out.map Prod.snd) → (out.map fun q => tD q.2).Pairwise (fun a b => XC.dle a b = true) → H1 p = none → Q (.ref p) (upd H1 p (.lst (out.map fun q => V.ref q.1)))
theorem srtbl_sub {ds ds' : List PyData} (S : XC.Srtbl ds) (h : ∀ d ∈ ds', d ∈ ds) : XC.Srtbl ds' :=
  ⟨fun d m d' m' => S.alike d (h d m) d' (h d' m'), S.kind.imp (fun k d m => k d (h d m)) fun k d m => k d (h d m), fun d m => S.deep d (h d m)⟩

variable {e : Expr} {te : TE} {p p2 q pos : Pos}
theorem pe_ssf (hc : X.calm = true) (hu : X.A.units + 200 < cLine) (g1 : Gl X "sorted") (m1 : X.mg "sorted" = none) (g2 : Gl X "set") (m2 : X.mg "set" = none) (he : PE X e te) (ne : starEach [e] X.env = (false, eval e X.env) :: starEach [] X.env := by rfl) :
    PE X (.Call (.Name "sorted" p) [.Call (.Name "set" p2) [e] [] q] [] pos) (tSSf X.K te) := by
  refine ⟨fun pins s σ H Q I h => ?_⟩
  refine Call_ (ld_blt I g1 m1 (show bootBuiltins "sorted" = some (.builtin "sorted") by decide +kernel) ?_)
  refine PyProof.Rows.callWith_builtin1 (PyProof.Rows.args_cons ?_ rfl) rfl rfl
  refine Call_ (ld_blt I g2 m2 PyProof.Rows.boot_set ?_)
  refine PyProof.Rows.callWith_type1 (PyProof.Rows.args_cons (thn (he.run pins s σ H _ I h) fun v s1 ⟨x, H1, I1, r1, q1⟩ => PyProof.Rows.args_nil ?_) ne) ne rfl
  obtain ⟨l, ks, rfl, hl, few, S, q1⟩ := q1
  cases r1
  refine set_flat hc (by omega) I1 hl few fun h' tk a L es ep t I2 B mem => PyProof.Rows.args_nil ?_
  have sub : ∀ d ∈ L.map (fun p => kD p.2), d ∈ ks.map kD := by
    intro d m
    obtain ⟨p, hp, rfl⟩ := List.mem_map.mp m
    exact List.mem_map.mpr ⟨p.2, (mem p.2).mp (List.mem_map.mpr ⟨p, hp, rfl⟩), rfl⟩
  refine sorted_of_set B (I2.ok.hd hc) kD (fun p m => reads_key (B.its p m).1) (srtbl_sub S sub) (by omega) fun s' p c L' k g o hp at_ pm so => ?_
  have few2 : L'.length < 64 := by
    rw [pm.length_eq]
    exact B.few
  refine new_list I2 k g o hp at_ (vals_keys fun p m => (B.its p (pm.mem_iff.mp m)).1) (by rw [List.length_map, List.length_map, sizeLine_eq]; omega) fun hn => q1 (L'.map Prod.snd) p ((pm.map Prod.snd).nodup_iff.mpr B.nd) (fun k => ?_) ?_ hn
  · rw [(pm.map Prod.snd).mem_iff]
    exact mem k
  · rw [List.map_map]
    exact so
theorem pe_sst (hc : X.calm = true) (hu : X.A.units + 200 < cLine) (g1 : Gl X "sorted") (m1 : X.mg "sorted" = none) (g2 : Gl X "set") (m2 : X.mg "set" = none) (he : PE X e te) (ne : starEach [e] X.env = (false, eval e X.env) :: starEach [] X.env := by rfl) :
    PE X (.Call (.Name "sorted" p) [.Call (.Name "set" p2) [e] [] q] [] pos) (tSSt X.K te) := by
  refine ⟨fun pins s σ H Q I h => ?_⟩
  refine Call_ (ld_blt I g1 m1 (show bootBuiltins "sorted" = some (.builtin "sorted") by decide +kernel) ?_)
  refine PyProof.Rows.callWith_builtin1 (PyProof.Rows.args_cons ?_ rfl) rfl rfl
  refine Call_ (ld_blt I g2 m2 PyProof.Rows.boot_set ?_)
  refine PyProof.Rows.callWith_type1 (PyProof.Rows.args_cons (thn (he.run pins s σ H _ I h) fun v s1 ⟨x, H1, I1, r1, q1⟩ => PyProof.Rows.args_nil ?_) ne) ne rfl
  obtain ⟨l, ps, rfl, hl, ht, few, S, q1⟩ := q1
  cases r1
  refine set_tups hc (by omega) I1 hl ht few fun h' tk a L es ep t I2 B in_ all => PyProof.Rows.args_nil ?_
  have sub : ∀ d ∈ (L.map fun p => (Value.ref p.1, p.2)).map (fun p => tD p.2), d ∈ ps.map fun p => tD p.2 := by
    intro d m
    rw [List.map_map] at m
    obtain ⟨p, hp, rfl⟩ := List.mem_map.mp m
    exact List.mem_map.mpr ⟨p, in_ p hp, rfl⟩
  refine sorted_of_set B (I2.ok.hd hc) tD (fun p m => ?_) (srtbl_sub S sub) (by omega) fun s' p c L' k g o hp at_ pm so => ?_
  · obtain ⟨b, e, x⟩ := B.its p m
    rw [e]
    exact reads_tup x
  · obtain ⟨L2, p2, e2⟩ := lift_perm (f := fun p : Addr × List Key => (Value.ref p.1, p.2)) pm L rfl
    subst e2
    have few2 : L2.length < 64 := by
      rw [p2.length_eq]
      have := B.few
      rwa [List.length_map] at this
    have nd : (L.map Prod.snd).Nodup := by
      have := B.nd
      rw [List.map_map] at this
      exact this
    rw [List.map_map] at at_ so
    refine new_list I2 k g o hp at_ (refs_vals L2) (by rw [List.length_map, sizeLine_eq]; omega) fun hn => q1 L2 p (fun q m => in_ q (p2.mem_iff.mp m)) ((p2.map Prod.snd).nodup_iff.mpr nd) (fun q m => ?_) so hn
    rw [(p2.map Prod.snd).mem_iff]
    exact all q m

/-- len(set(e)) -/
def tLSf (K : PySem.W.Frag) (te : TE) : TE := fun σ H Q => te σ H fun x H1 => ∃ (l : Addr) (ks : List Key), x = .ref l ∧ Sq K H1 l (ks.map kV) ∧ ks.length < 64 ∧
  ∀ out : List Key, out.Nodup → (∀ k, k ∈ out ↔ k ∈ ks) → Q (.int out.length) H1
def tLSt (K : PySem.W.Frag) (te : TE) : TE := fun σ H Q => te σ H fun x H1 => ∃ (l : Addr) (ps : List (Addr × List Key)), x = .ref l ∧ Sq K H1 l (ps.map fun p => V.ref p.1) ∧ (∀ p ∈ ps, TupK K H1 p) ∧ ps.length < 64 ∧
  ∀ out : List (List Key), out.Nodup → (∀ ks, ks ∈ out ↔ ks ∈ ps.map Prod.snd) → Q (.int out.length) H1
theorem pe_lsf (hc : X.calm = true) (hu : X.A.units + 200 < cLine) (g1 : Gl X "len") (m1 : X.mg "len" = none) (g2 : Gl X "set") (m2 : X.mg "set" = none) (he : PE X e te) (ne : starEach [e] X.env = (false, eval e X.env) :: starEach [] X.env := by rfl) :
    PE X (.Call (.Name "len" p) [.Call (.Name "set" p2) [e] [] q] [] pos) (tLSf X.K te) := by
  refine ⟨fun pins s σ H Q I h => ?_⟩
  refine Call_ (ld_blt I g1 m1 PySem.boot_len ?_)
  refine PyProof.Rows.callWith_builtin1 (PyProof.Rows.args_cons ?_ rfl) rfl rfl
  refine Call_ (ld_blt I g2 m2 PyProof.Rows.boot_set ?_)
  refine PyProof.Rows.callWith_type1 (PyProof.Rows.args_cons (thn (he.run pins s σ H _ I h) fun v s1 ⟨x, H1, I1, r1, q1⟩ => PyProof.Rows.args_nil ?_) ne) ne rfl
  obtain ⟨l, ks, rfl, hl, few, q1⟩ := q1
  cases r1
  refine set_flat hc (by omega) I1 hl few fun h' tk a L es ep t I2 B mem => PyProof.Rows.args_nil ?_
  obtain ⟨o, ho, hex, hd⟩ := B.ob
  have n := B.size
  have few2 := B.few
  exact call_len_set ho hex hd B.fits (by rw [n]; omega) ⟨.int (L.map Prod.snd).length, H1, I2.tok _, ⟨_, by rw [n, List.length_map]⟩, q1 _ B.nd mem⟩
theorem pe_lst (hc : X.calm = true) (hu : X.A.units + 200 < cLine) (g1 : Gl X "len") (m1 : X.mg "len" = none) (g2 : Gl X "set") (m2 : X.mg "set" = none) (he : PE X e te) (ne : starEach [e] X.env = (false, eval e X.env) :: starEach [] X.env := by rfl) :
    PE X (.Call (.Name "len" p) [.Call (.Name "set" p2) [e] [] q] [] pos) (tLSt X.K te) := by
  refine ⟨fun pins s σ H Q I h => ?_⟩
  refine Call_ (ld_blt I g1 m1 PySem.boot_len ?_)
  refine PyProof.Rows.callWith_builtin1 (PyProof.Rows.args_cons ?_ rfl) rfl rfl
  refine Call_ (ld_blt I g2 m2 PyProof.Rows.boot_set ?_)
  refine PyProof.Rows.callWith_type1 (PyProof.Rows.args_cons (thn (he.run pins s σ H _ I h) fun v s1 ⟨x, H1, I1, r1, q1⟩ => PyProof.Rows.args_nil ?_) ne) ne rfl
  obtain ⟨l, ps, rfl, hl, ht, few, q1⟩ := q1
  cases r1
  refine set_tups hc (by omega) I1 hl ht few fun h' tk a L es ep t I2 B in_ all => PyProof.Rows.args_nil ?_
  obtain ⟨o, ho, hex, hd⟩ := B.ob
  have n := B.size
  have few2 := B.few
  have nd : (L.map Prod.snd).Nodup := by
    have := B.nd
    rw [List.map_map] at this
    exact this
  refine call_len_set ho hex hd B.fits (by rw [n]; omega) ⟨.int (L.map Prod.snd).length, H1, I2.tok _, ⟨_, by rw [n, List.length_map, List.length_map]⟩, q1 _ nd fun ks => ⟨fun m => ?_, fun m => ?_⟩⟩
  · obtain ⟨p, hp, rfl⟩ := List.mem_map.mp m
    exact List.mem_map.mpr ⟨p, in_ p hp, rfl⟩
  · obtain ⟨p, hp, rfl⟩ := List.mem_map.mp m
    exact all p hp
end
end XD

set_option maxRecDepth 100000
set_option maxHeartbeats 4000000
/-! what a piece of the text computes, on data: states of slots, results, rules one a construct -/
namespace XN
open PySem PySem.Spec PyProof.Rows L2 Evl

/-- a slot: data that stay as they are; a list that no one else holds; the drawn box -/
inductive SV where
  | d (x : PyData)
  | own (xs : List PyData)
  | bx
structure SS where
  e : List (Option SV)
  b : List Int
/-- the list that slot i alone holds -/
def SS.at (s : SS) (i : Nat) : Option (List PyData) := match s.e[i]? with
  | some (some (.own xs)) => some xs
  | _ => none
theorem at_of {s : SS} {i : Nat} {xs : List PyData} (h : s.at i = some xs) : s.e[i]? = some (some (.own xs)) := by
  unfold SS.at at h
  split at h
  · rename_i e
    rw [e, Option.some.inj h]
  · cases h
theorem at_is {s : SS} {i : Nat} {xs : List PyData} (h : s.e[i]? = some (some (.own xs))) : s.at i = some xs := by
  unfold SS.at
  rw [h]
/-- what an expression gives: data, a new list, the list of slot i, the box -/
inductive RV where
  | d (x : PyData)
  | fresh (xs : List PyData)
  | sl (i : Nat)
  | bx
/-- what an operation gives: data at hand, a new list, a new tuple -/
inductive PV where
  | d (x : PyData)
  | l (xs : List PyData)
  | t (xs : List PyData)

mutual
theorem dp_ex {K : PySem.W.Frag} {H H' : Hp} (e : Ex H H') : ∀ (x : PyData) (v : V), Dp K H v x → Dp K H' v x
  | .none, _, h => by cases h; exact .non
  | .bool b, _, h => by cases h; exact .bl b
  | .int i, _, h => by cases h; exact .int i
  | .str x, _, h => by cases h; exact .str x
  | .list ds, _, h => by
    cases h with
    | lst hs ha => exact .lst (ex_l e hs) (dpa_ex e ds _ ha)
  | .tuple ds, _, h => by
    cases h with
    | tup hs ha => exact .tup (ex_t e hs) (dpa_ex e ds _ ha)
  | .dict _, _, h => by cases h
theorem dpa_ex {K : PySem.W.Frag} {H H' : Hp} (e : Ex H H') : ∀ (xs : List PyData) (vs : List V), DpAll K H vs xs → DpAll K H' vs xs
  | [], _, h => by cases h; exact .nil
  | d :: ds, _, h => by
    cases h with
    | cons h1 h2 => exact .cons (dp_ex e d _ h1) (dpa_ex e ds _ h2)
end
theorem dpa_len {K : PySem.W.Frag} {H : Hp} : ∀ {vs : List V} {xs : List PyData}, DpAll K H vs xs → vs.length = xs.length
  | _, _, .nil => rfl
  | _, _, .cons _ t => congrArg Nat.succ (dpa_len t)
theorem dpa_get {K : PySem.W.Frag} {H : Hp} : ∀ {vs : List V} {xs : List PyData} {i : Nat} {x : PyData}, DpAll K H vs xs → xs[i]? = some x → ∃ v, vs[i]? = some v ∧ Dp K H v x
  | _, _, i, x, .nil, h => by simp at h
  | _, _, 0, x, .cons d _, h => by
    have e := Option.some.inj h
    subst e
    exact ⟨_, rfl, d⟩
  | _, _, i + 1, x, .cons _ t, h => dpa_get (i := i) t h
theorem dpa_app {K : PySem.W.Frag} {H : Hp} : ∀ {vs ws : List V} {xs ys : List PyData}, DpAll K H vs xs → DpAll K H ws ys → DpAll K H (vs ++ ws) (xs ++ ys)
  | _, _, _, _, .nil, h => h
  | _, _, _, _, .cons d t, h => .cons d (dpa_app t h)
theorem dpa_take {K : PySem.W.Frag} {H : Hp} : ∀ {vs : List V} {xs : List PyData} (n : Nat), DpAll K H vs xs → DpAll K H (vs.take n) (xs.take n)
  | _, _, 0, _ => .nil
  | _, _, _ + 1, .nil => .nil
  | _, _, n + 1, .cons d t => .cons d (dpa_take n t)
theorem dpa_drop {K : PySem.W.Frag} {H : Hp} : ∀ {vs : List V} {xs : List PyData} (n : Nat), DpAll K H vs xs → DpAll K H (vs.drop n) (xs.drop n)
  | _, _, 0, h => h
  | _, _, _ + 1, .nil => .nil
  | _, _, n + 1, .cons _ t => dpa_drop n t
theorem dpa_set {K : PySem.W.Frag} {H : Hp} {v : V} {x : PyData} (d : Dp K H v x) : ∀ {vs : List V} {xs : List PyData} (n : Nat), DpAll K H vs xs → DpAll K H (vs.set n v) (xs.set n x)
  | _, _, _, .nil => .nil
  | _, _, 0, .cons _ t => .cons d t
  | _, _, n + 1, .cons h t => .cons h (dpa_set d n t)
theorem dpa_ints {K : PySem.W.Frag} {H : Hp} : ∀ (ns : List Int), DpAll K H (ns.map V.int) (ns.map PyData.int)
  | [] => .nil
  | n :: ns => .cons (.int n) (dpa_ints ns)

section
variable (K : PySem.W.Frag) (B : Option Addr)
/-- a slot's value -/
def SlotIs (Fr H0 H : Hp) (u : Option (Option V)) : SV → Prop
  | .d x => ∃ v, u = some (some v) ∧ Dp K H0 v x
  | .own xs => ∃ p vs, u = some (some (.ref p)) ∧ H0 p = none ∧ Fr p = none ∧ B ≠ some p ∧ H p = some (.lst vs) ∧ DpAll K H0 vs xs
  | .bx => ∃ p, B = some p ∧ u = some (some (.ref p))
/-- H0: the data, for good; Fr: what others hold; the box at B -/
structure Rel (Fr H0 : Hp) (s : SS) (σ : L2.St) (H : Hp) : Prop where
  e0 : Ex H0 H
  ef : Ex Fr H
  dj : ∀ p o, Fr p = some o → H0 p = none
  box : ∀ p, B = some p → H0 p = none ∧ Fr p = none ∧ H p = some (.lst (s.b.map V.int))
  len : s.e.length = σ.length
  bb : s.b = [] → B = none
  sl : ∀ (i : Nat) v, s.e[i]? = some (some v) → SlotIs K B Fr H0 H (σ[i]?) v
  ne : ∀ (i j : Nat) xs ys p, i ≠ j → s.e[i]? = some (some (.own xs)) → s.e[j]? = some (some (.own ys)) → σ[i]? = some (some (.ref p)) → σ[j]? = some (some (.ref p)) → False
/-- a result -/
def Res (Fr H0 : Hp) (s : SS) (σ : L2.St) (H : Hp) (v : V) : RV → Prop
  | .d x => Dp K H0 v x
  | .fresh xs => ∃ p vs, v = .ref p ∧ H0 p = none ∧ Fr p = none ∧ B ≠ some p ∧ H p = some (.lst vs) ∧ DpAll K H0 vs xs ∧ ∀ (i : Nat) ys, s.e[i]? = some (some (.own ys)) → σ[i]? ≠ some (some (.ref p))
  | .sl i => σ[i]? = some (some v) ∧ ∃ xs, s.e[i]? = some (some (.own xs))
  | .bx => ∃ p, B = some p ∧ v = .ref p
/-- a result that is held while others are found -/
def Held (H0 : Hp) (σ : L2.St) (v : V) : RV → Prop
  | .d x => Dp K H0 v x
  | .fresh _ => False
  | .sl i => σ[i]? = some (some v)
  | .bx => ∃ p, B = some p ∧ v = .ref p
/-- data as an operation sees them: a list may be one that still changes later -/
def Dq (H0 H : Hp) (v : V) : PyData → Prop
  | .list ds => ∃ a vs, v = .ref a ∧ SqL K H a vs ∧ DpAll K H0 vs ds
  | x => Dp K H0 v x
def Out (H0 H : Hp) (Q : VK) : PV → Prop
  | .d x => ∀ v, Dp K H0 v x → Q v H
  | .l xs => ∀ p vs, H p = none → DpAll K H0 vs xs → Q (.ref p) (upd H p (.lst vs))
  | .t xs => (∀ v, Dp K H0 v (.tuple xs) → Q v H) ∧ ∀ p vs, H p = none → DpAll K H0 vs xs → Q (.ref p) (upd H p (.tup vs))
end
def PV.rv : PV → RV
  | .d x => .d x
  | .l xs => .fresh xs
  | .t xs => .d (.tuple xs)
def RV.hold : RV → RV
  | .fresh xs => .d (.list xs)
  | r => r
/-- the data of a result, as they stand at s -/
def RV.dat (s : SS) : RV → Option PyData
  | .d x => some x
  | .fresh xs => some (.list xs)
  | .sl i => (s.at i).map .list
  | .bx => some (.list (s.b.map .int))
/-- the data for good: a slot's list is given away -/
def RV.take (s : SS) : RV → Option (PyData × SS)
  | .d x => some (x, s)
  | .fresh xs => some (.list xs, s)
  | .sl i => (s.at i).map fun xs => (.list xs, ⟨s.e.set i (some (.d (.list xs))), s.b⟩)
  | .bx => none

section
variable {K : PySem.W.Frag} {B : Option Addr} {Fr H0 H0' H H' : Hp} {s s' : SS} {σ : L2.St} {v : V} {r : RV}
theorem Dq.dp {x : PyData} (e : Ex H0 H) (h : Dq K H0 H v x) : Dp K H v x := by
  cases x with
  | list ds =>
    obtain ⟨a, vs, rfl, h1, h2⟩ := h
    exact .lst h1 (dpa_ex e ds _ h2)
  | _ => exact dp_ex e _ _ h
theorem dq_of {x : PyData} (e : Ex H0 H) (h : Dp K H0 v x) : Dq K H0 H v x := by
  cases x with
  | list ds =>
    cases h with
    | lst h1 h2 => exact ⟨_, _, rfl, ex_l e h1, h2⟩
  | _ => exact h
theorem Held.up (e : Ex H0 H0') (h : Held K B H0 σ v r) : Held K B H0' σ v r := by
  cases r with
  | d x => exact dp_ex e _ _ h
  | fresh xs => exact h
  | sl i => exact h
  | bx => exact h
theorem Held.dq {x : PyData} (R : Rel K B Fr H0 s σ H) (h : Held K B H0 σ v r) (e : r.dat s = some x) : Dq K H0 H v x := by
  cases r with
  | d y =>
    obtain rfl := Option.some.inj e
    exact dq_of R.e0 h
  | fresh xs => exact h.elim
  | sl i =>
    obtain ⟨xs, he, ex⟩ := Option.map_eq_some_iff.mp (show (s.at i).map PyData.list = some x from e)
    subst ex
    obtain ⟨p, vs, hp, _, _, _, hh, hd⟩ := R.sl i _ (at_of he)
    have hv : σ[i]? = some (some v) := h
    rw [hv] at hp
    cases hp
    exact ⟨p, vs, rfl, sq_of hh, hd⟩
  | bx =>
    obtain rfl := Option.some.inj e
    obtain ⟨p, hp, rfl⟩ := h
    obtain ⟨_, _, hh⟩ := R.box p hp
    exact ⟨p, _, rfl, sq_of hh, dpa_ints _⟩
theorem ex_upd {p : Addr} {o : HO} (h0 : H0 p = none) (e : Ex H0 H) (h : H p = some o) : Ex (upd H0 p o) H := fun a u ha => by
  by_cases z : a = p
  · subst z
    rw [upd_same] at ha
    cases ha
    exact h
  · rw [upd_ne z] at ha
    exact e a u ha
theorem SlotIs.up {u : Option (Option V)} {w : SV} (e : Ex H0 H0') (k : ∀ p vs, H0 p = none → Fr p = none → B ≠ some p → u = some (some (.ref p)) → H p = some (.lst vs) → H0' p = none ∧ H' p = some (.lst vs)) (h : SlotIs K B Fr H0 H u w) : SlotIs K B Fr H0' H' u w := by
  cases w with
  | d x =>
    obtain ⟨v, hu, hd⟩ := h
    exact ⟨v, hu, dp_ex e _ _ hd⟩
  | own xs =>
    obtain ⟨p, vs, hu, h1, h2, h3, h4, h5⟩ := h
    obtain ⟨k1, k2⟩ := k p vs h1 h2 h3 hu h4
    exact ⟨p, vs, hu, k1, h2, h3, k2, dpa_ex e _ _ h5⟩
  | bx => exact h
/-- a list that is no slot's is frozen -/
theorem Rel.freeze {p : Addr} {o : HO} (R : Rel K B Fr H0 s σ H) (h0 : H0 p = none) (hf : Fr p = none) (hb : B ≠ some p) (hh : H p = some o) (hs : ∀ (i : Nat) ys, s.e[i]? = some (some (.own ys)) → σ[i]? ≠ some (some (.ref p))) : Rel K B Fr (upd H0 p o) s σ H where
  e0 := ex_upd h0 R.e0 hh
  ef := R.ef
  dj := fun q u hq => by
    have : q ≠ p := fun z => by rw [z, hf] at hq; cases hq
    rw [upd_ne this]
    exact R.dj q u hq
  box := fun q hq => by
    have : q ≠ p := fun z => hb (by rw [hq, z])
    obtain ⟨b1, b2, b3⟩ := R.box q hq
    exact ⟨by rw [upd_ne this]; exact b1, b2, b3⟩
  len := R.len
  bb := R.bb
  sl := fun i w hi => by
    cases w with
    | own xs =>
      obtain ⟨q, vs, hu, h1, h2, h3, h4, h5⟩ := R.sl i _ hi
      have : q ≠ p := fun z => hs i xs hi (by rw [hu, z])
      exact ⟨q, vs, hu, by rw [upd_ne this]; exact h1, h2, h3, h4, dpa_ex (Ex.new h0) _ _ h5⟩
    | d x =>
      obtain ⟨v, hv, hd⟩ := R.sl i _ hi
      exact ⟨v, hv, dp_ex (Ex.new h0) _ _ hd⟩
    | bx => exact R.sl i _ hi
  ne := R.ne
theorem Rel.none_of {p : Addr} (R : Rel K B Fr H0 s σ H) (h : H p = none) : H0 p = none ∧ Fr p = none ∧ B ≠ some p ∧ ∀ (i : Nat) ys, s.e[i]? = some (some (.own ys)) → σ[i]? ≠ some (some (.ref p)) := by
  refine ⟨fresh_back R.e0 h, fresh_back R.ef h, fun z => ?_, fun i ys hi z => ?_⟩
  · rw [(R.box p z).2.2] at h
    cases h
  · obtain ⟨q, vs, hu, _, _, _, hh, _⟩ := R.sl i _ hi
    rw [z] at hu
    cases hu
    rw [hh] at h
    cases h
/-- the heap changes where neither data nor others' things nor slots' lists stand -/
theorem Rel.heap (R : Rel K B Fr H0 s σ H) (e0 : Ex H0 H') (ef : Ex Fr H') (kb : ∀ p, B = some p → H' p = H p) (ks : ∀ (i : Nat) ys p, s.e[i]? = some (some (.own ys)) → σ[i]? = some (some (.ref p)) → H' p = H p) : Rel K B Fr H0 s σ H' where
  e0 := e0
  ef := ef
  dj := R.dj
  box := fun p hp => by
    obtain ⟨a, b, c⟩ := R.box p hp
    exact ⟨a, b, (kb p hp).trans c⟩
  len := R.len
  bb := R.bb
  sl := fun i w hi => by
    cases w with
    | own xs =>
      obtain ⟨q, vs, hu, h1, h2, h3, h4, h5⟩ := R.sl i _ hi
      exact ⟨q, vs, hu, h1, h2, h3, (ks i xs q hi hu).trans h4, h5⟩
    | d x => exact R.sl i _ hi
    | bx => exact R.sl i _ hi
  ne := R.ne
theorem Rel.new {p : Addr} {o : HO} (R : Rel K B Fr H0 s σ H) (h : H p = none) : Rel K B Fr H0 s σ (upd H p o) := by
  obtain ⟨_, _, hb, hs⟩ := R.none_of h
  refine R.heap (R.e0.trans (Ex.new h)) (R.ef.trans (Ex.new h)) (fun q hq => upd_ne fun z => hb (by rw [hq, z])) fun i ys q hi hq => upd_ne fun z => hs i ys hi (by rw [hq, z])
theorem Res.hold (R : Rel K B Fr H0 s σ H) (h : Res K B Fr H0 s σ H v r) : ∃ H0', Ex H0 H0' ∧ Rel K B Fr H0' s σ H ∧ Held K B H0' σ v r.hold := by
  cases r with
  | d x => exact ⟨H0, Ex.refl _, R, h⟩
  | fresh xs =>
    obtain ⟨p, vs, rfl, h1, h2, h3, h4, h5, h6⟩ := h
    exact ⟨_, Ex.new h1, R.freeze h1 h2 h3 h4 h6, Dp.lst (sq_of upd_same) (dpa_ex (Ex.new h1) _ _ h5)⟩
  | sl i => exact ⟨H0, Ex.refl _, R, h.1⟩
  | bx => exact ⟨H0, Ex.refl _, R, h⟩
/-- a claim about a slot is dropped, or made weaker -/
theorem Rel.weak {e : List (Option SV)} (R : Rel K B Fr H0 s σ H) (hl : e.length = s.e.length) (h : ∀ (i : Nat) w, e[i]? = some (some w) → SlotIs K B Fr H0 H (σ[i]?) w ∧ ∀ xs, w = .own xs → s.e[i]? = some (some (.own xs))) : Rel K B Fr H0 ⟨e, s.b⟩ σ H where
  e0 := R.e0
  ef := R.ef
  dj := R.dj
  box := R.box
  len := hl.trans R.len
  bb := R.bb
  sl := fun i w hi => (h i w hi).1
  ne := fun i j xs ys p n hi hj => R.ne i j xs ys p n ((h i _ hi).2 xs rfl) ((h j _ hj).2 ys rfl)
/-- slot i's list is given away -/
theorem Rel.give {i : Nat} {xs : List PyData} {v : V} (R : Rel K B Fr H0 s σ H) (hi : s.e[i]? = some (some (.own xs))) (hv : σ[i]? = some (some v)) : ∃ H0', Ex H0 H0' ∧ Rel K B Fr H0' ⟨s.e.set i (some (.d (.list xs))), s.b⟩ σ H ∧ Dp K H0' v (.list xs) := by
  obtain ⟨p, vs, hu, h1, h2, h3, h4, h5⟩ := R.sl i _ hi
  rw [hv] at hu
  cases hu
  have il : i < s.e.length := (List.getElem?_eq_some_iff.mp hi).1
  have R1 : Rel K B Fr H0 ⟨s.e.set i none, s.b⟩ σ H := R.weak (List.length_set ..) fun j w hj => by
    by_cases z : j = i
    · subst z
      rw [List.getElem?_set_self il] at hj
      cases hj
    · rw [List.getElem?_set_ne (fun q => z q.symm)] at hj
      exact ⟨R.sl j w hj, fun ys e => by rw [hj, e]⟩
  have R2 := R1.freeze (p := p) h1 h2 h3 h4 fun j ys hj hq => by
    by_cases z : j = i
    · subst z
      rw [show (SS.mk (s.e.set j none) s.b).e = s.e.set j none from rfl, List.getElem?_set_self il] at hj
      cases hj
    · rw [show (SS.mk (s.e.set i none) s.b).e = s.e.set i none from rfl, List.getElem?_set_ne (fun q => z q.symm)] at hj
      exact R.ne j i ys xs p z hj hi hq hv
  have D : Dp K (upd H0 p (.lst vs)) (.ref p) (.list xs) := Dp.lst (sq_of upd_same) (dpa_ex (Ex.new h1) _ _ h5)
  refine ⟨_, Ex.new h1, ?_, D⟩
  have hl : (s.e.set i (some (.d (.list xs)))).length = (s.e.set i none).length := by rw [List.length_set, List.length_set]
  refine R2.weak (s := ⟨s.e.set i none, s.b⟩) hl fun j w hj => ?_
  by_cases z : j = i
  · subst z
    rw [List.getElem?_set_self il] at hj
    cases hj
    exact ⟨⟨_, hv, D⟩, fun _ e => nomatch e⟩
  · rw [List.getElem?_set_ne (fun q => z q.symm)] at hj
    have hj2 : (s.e.set i none)[j]? = some (some w) := by
      rw [List.getElem?_set_ne (fun q => z q.symm)]
      exact hj
    exact ⟨R2.sl j w hj2, fun ys e => by
      show (s.e.set i none)[j]? = _
      rw [hj2, e]⟩
theorem Held.take {x : PyData} (R : Rel K B Fr H0 s σ H) (h : Held K B H0 σ v r) (e : r.take s = some (x, s')) : ∃ H0', Ex H0 H0' ∧ Rel K B Fr H0' s' σ H ∧ Dp K H0' v x := by
  cases r with
  | d y =>
    obtain ⟨rfl, rfl⟩ := Prod.mk.inj (Option.some.inj e)
    exact ⟨H0, Ex.refl _, R, h⟩
  | fresh xs => exact h.elim
  | sl i =>
    obtain ⟨xs, he, ex⟩ := Option.map_eq_some_iff.mp e
    obtain ⟨rfl, rfl⟩ := Prod.mk.inj ex
    exact R.give (at_of he) h
  | bx => cases e
theorem out_of {z : PV} {Q : VK} (R : Rel K B Fr H0 s σ H) (k : ∀ v H' H0', Ex H0 H0' → Rel K B Fr H0' s σ H' → Res K B Fr H0' s σ H' v z.rv → Q v H') : Out K H0 H Q z := by
  cases z with
  | d x => exact fun v hv => k v H H0 (Ex.refl _) R hv
  | l xs =>
    intro p vs hp hd
    obtain ⟨a, b, c, d⟩ := R.none_of hp
    exact k _ _ H0 (Ex.refl _) (R.new hp) ⟨p, vs, rfl, a, b, c, upd_same, hd, d⟩
  | t xs =>
    refine ⟨fun v hv => k v H H0 (Ex.refl _) R hv, fun p vs hp hd => ?_⟩
    obtain ⟨a, b, c, d⟩ := R.none_of hp
    exact k _ _ _ (Ex.new a) ((R.new hp).freeze a b c upd_same d) (Dp.tup (st_of upd_same) (dpa_ex (Ex.new a) _ _ hd))

/-- slot i takes a result -/
def SS.put (s : SS) (i : Nat) : RV → Option SS
  | .d x => some ⟨s.e.set i (some (.d x)), s.b⟩
  | .fresh xs => some ⟨s.e.set i (some (.own xs)), s.b⟩
  | .sl j => if j = i then none else (s.at j).map fun xs => ⟨(s.e.set j (some (.d (.list xs)))).set i (some (.d (.list xs))), s.b⟩
  | .bx => some ⟨s.e.set i (some .bx), s.b⟩
theorem Rel.putW {i : Nat} {w : SV} (R : Rel K B Fr H0 s σ H) (il : i < σ.length) (hw : SlotIs K B Fr H0 H (some (some v)) w) (hn : ∀ xs, w = .own xs → ∀ (j : Nat) ys, s.e[j]? = some (some (.own ys)) → σ[j]? ≠ some (some v)) : Rel K B Fr H0 ⟨s.e.set i (some w), s.b⟩ (σ.set i (some v)) H where
  e0 := R.e0
  ef := R.ef
  dj := R.dj
  box := R.box
  bb := R.bb
  len := by
    show (s.e.set i (some w)).length = _
    rw [List.length_set, List.length_set]
    exact R.len
  sl := fun j u hj => by
    have hj : (s.e.set i (some w))[j]? = some (some u) := hj
    by_cases z : j = i
    · subst z
      rw [List.getElem?_set_self (by rw [R.len]; exact il)] at hj
      cases hj
      rw [List.getElem?_set_self il]
      exact hw
    · rw [List.getElem?_set_ne (fun q => z q.symm)] at hj ⊢
      exact R.sl j u hj
  ne := fun j k xs ys p n gj gk pj pk => by
    have hj : (s.e.set i (some w))[j]? = some (some (.own xs)) := gj
    have hk : (s.e.set i (some w))[k]? = some (some (.own ys)) := gk
    clear gj gk
    have il' : i < s.e.length := by rw [R.len]; exact il
    by_cases z : i = j
    · rw [z, List.getElem?_set_self (by omega)] at hj pj
      rw [z, List.getElem?_set_ne n] at hk pk
      cases hj
      cases pj
      exact hn xs rfl k ys hk pk
    · rw [List.getElem?_set_ne z] at hj pj
      by_cases y : i = k
      · rw [y, List.getElem?_set_self (by omega)] at hk pk
        cases hk
        cases pk
        exact hn ys rfl j xs hj pj
      · rw [List.getElem?_set_ne y] at hk pk
        exact R.ne j k xs ys p n hj hk pj pk
theorem Rel.put {i : Nat} (R : Rel K B Fr H0 s σ H) (il : i < σ.length) (h : Res K B Fr H0 s σ H v r) (e : s.put i r = some s') : ∃ H0', Ex H0 H0' ∧ Rel K B Fr H0' s' (σ.set i (some v)) H := by
  cases r with
  | d x =>
    obtain rfl := Option.some.inj e
    exact ⟨H0, Ex.refl _, R.putW il ⟨v, rfl, h⟩ fun _ z => nomatch z⟩
  | fresh xs =>
    obtain rfl := Option.some.inj e
    obtain ⟨p, vs, rfl, h1, h2, h3, h4, h5, h6⟩ := h
    exact ⟨H0, Ex.refl _, R.putW il ⟨p, vs, rfl, h1, h2, h3, h4, h5⟩ fun _ _ => h6⟩
  | sl j =>
    have e : (if j = i then none else (s.at j).map fun xs => (⟨(s.e.set j (some (.d (.list xs)))).set i (some (.d (.list xs))), s.b⟩ : SS)) = some s' := e
    by_cases z : j = i
    · rw [if_pos z] at e
      cases e
    · rw [if_neg z] at e
      obtain ⟨xs, he, ex⟩ := Option.map_eq_some_iff.mp e
      subst ex
      obtain ⟨H1, e1, R1, d1⟩ := R.give (at_of he) h.1
      exact ⟨H1, e1, R1.putW il ⟨v, rfl, d1⟩ fun _ z => nomatch z⟩
  | bx =>
    obtain rfl := Option.some.inj e
    obtain ⟨p, hp, rfl⟩ := h
    exact ⟨H0, Ex.refl _, R.putW il ⟨p, hp, rfl⟩ fun _ z => nomatch z⟩
end
end XN

set_option maxRecDepth 100000
set_option maxHeartbeats 4000000
/-! judgements: what a piece computes on data; expressions -/
namespace XN
open PySem PySem.Spec PyProof.Rows L2 Evl

abbrev DF := SS → Option (RV × SS)
abbrev DT := SS → Option (Bool × SS)
abbrev DA := SS → Option (List RV × SS)
section
variable (K : PySem.W.Frag)
def DenE (te : TE) (f : DF) : Prop := ∀ (B : Option Addr) (Fr H0 : Hp) (s : SS) (σ : L2.St) (H : Hp) (r : RV) (s' : SS), Rel K B Fr H0 s σ H → f s = some (r, s') → ∀ Q : VK,
  (∀ v H' H0', Ex H0 H0' → Rel K B Fr H0' s' σ H' → Res K B Fr H0' s' σ H' v r → Q v H') → te σ H Q
def DenT (tt : TT) (f : DT) : Prop := ∀ (B : Option Addr) (Fr H0 : Hp) (s : SS) (σ : L2.St) (H : Hp) (b : Bool) (s' : SS), Rel K B Fr H0 s σ H → f s = some (b, s') → ∀ Q : Bool → Hp → Prop,
  (∀ H' H0', Ex H0 H0' → Rel K B Fr H0' s' σ H' → Q b H') → tt σ H Q
inductive HeldAll (B : Option Addr) (H0 : Hp) (σ : L2.St) : List V → List RV → Prop
  | nil : HeldAll B H0 σ [] []
  | cons {v : V} {vs : List V} {r : RV} {rs : List RV} : Held K B H0 σ v r → HeldAll B H0 σ vs rs → HeldAll B H0 σ (v :: vs) (r :: rs)
inductive DqAll (H0 H : Hp) : List V → List PyData → Prop
  | nil : DqAll H0 H [] []
  | cons {v : V} {vs : List V} {x : PyData} {xs : List PyData} : Dq K H0 H v x → DqAll H0 H vs xs → DqAll H0 H (v :: vs) (x :: xs)
def DenA (ta : TA) (f : DA) : Prop := ∀ (B : Option Addr) (Fr H0 : Hp) (s : SS) (σ : L2.St) (H : Hp) (rs : List RV) (s' : SS), Rel K B Fr H0 s σ H → f s = some (rs, s') → ∀ Q : List V → Hp → Prop,
  (∀ vs H' H0', Ex H0 H0' → Rel K B Fr H0' s' σ H' → HeldAll K B H0' σ vs rs → Q vs H') → ta σ H Q
/-- operations on values -/
def Den1 (r : V → Hp → VK → Prop) (op : PyData → Option PV) : Prop := ∀ (H0 H : Hp) (x : V) (dx : PyData) (z : PV) (Q : VK), Ex H0 H → Dq K H0 H x dx → op dx = some z → Out K H0 H Q z → r x H Q
def Den2 (r : R2) (op : PyData → PyData → Option PV) : Prop := ∀ (H0 H : Hp) (x y : V) (dx dy : PyData) (z : PV) (Q : VK), Ex H0 H → Dq K H0 H x dx → Dq K H0 H y dy → op dx dy = some z → Out K H0 H Q z → r x y H Q
def DenB (r : List V → Hp → VK → Prop) (op : List PyData → Option PV) : Prop := ∀ (H0 H : Hp) (vs : List V) (ds : List PyData) (z : PV) (Q : VK), Ex H0 H → DqAll K H0 H vs ds → op ds = some z → Out K H0 H Q z → r vs H Q
end
structure DE (X : Cx) (e : Expr) (te : PySem.W.Frag → TE) (f : DF) : Prop where
  pe : PE X e (te X.K)
  den : DenE X.K (te X.K) f
structure DTe (X : Cx) (e : Expr) (tt : PySem.W.Frag → TT) (f : DT) : Prop where
  pt : PT X e (tt X.K)
  den : DenT X.K (tt X.K) f
structure DAs (X : Cx) (es : List Expr) (ta : PySem.W.Frag → TA) (f : DA) : Prop where
  pa : PA X es (ta X.K)
  den : DenA X.K (ta X.K) f
  len : ∀ s p, f s = some p → p.1.length = es.length

/-! ### the functions -/
def dV (i : Nat) : DF := fun s => match s.e[i]? with
  | some (some (.d x)) => some (.d x, s)
  | some (some (.own _)) => some (.sl i, s)
  | some (some .bx) => some (.bx, s)
  | _ => none
def dC (x : PyData) : DF := fun s => some (.d x, s)
def dOp (op : PyData → PyData → Option PV) (f g : DF) : DF := fun s => (f s).bind fun p => (g p.2).bind fun q => (p.1.hold.dat q.2).bind fun x => (q.1.hold.dat q.2).bind fun y => (op x y).map fun z => (z.rv, q.2)
def dUn (op : PyData → Option PV) (f : DF) : DF := fun s => (f s).bind fun p => (p.1.hold.dat p.2).bind fun x => (op x).map fun z => (z.rv, p.2)
def dTest (f : DF) : DT := fun s => (f s).bind fun p => match p.1 with
  | .d (.bool b) => some (b, p.2)
  | _ => none
def dNot (f : DT) : DT := fun s => (f s).map fun p => (!p.1, p.2)
def dAnd (f g : DT) : DT := fun s => (f s).bind fun p => if p.1 = true then g p.2 else some (false, p.2)
def dOr (f g : DT) : DT := fun s => (f s).bind fun p => if p.1 = true then some (true, p.2) else g p.2
def dVal (f : DT) : DF := fun s => (f s).map fun p => (.d (.bool p.1), p.2)
def dIf (c : DT) (f g : DF) : DF := fun s => (c s).bind fun p => if p.1 = true then f p.2 else g p.2
def dNil : DA := fun s => some ([], s)
def dCons (f : DF) (g : DA) : DA := fun s => (f s).bind fun p => (g p.2).map fun q => (p.1.hold :: q.1, q.2)
def takeAll : List RV → SS → Option (List PyData × SS)
  | [], s => some ([], s)
  | r :: rs, s => (r.take s).bind fun p => (takeAll rs p.2).map fun q => (p.1 :: q.1, q.2)
def datAll (s : SS) : List RV → Option (List PyData)
  | [] => some []
  | r :: rs => (r.dat s).bind fun x => (datAll s rs).map fun xs => x :: xs
def dTup (f : DA) : DF := fun s => (f s).bind fun p => (takeAll p.1 p.2).bind fun q => if q.1.length ≤ 100000 then some (.d (.tuple q.1), q.2) else none
def dLst (f : DA) : DF := fun s => (f s).bind fun p => (takeAll p.1 p.2).bind fun q => if q.1.length ≤ 100000 then some (.fresh q.1, q.2) else none
def dCB (op : List PyData → Option PV) (f : DA) : DF := fun s => (f s).bind fun p => (datAll p.2 p.1).bind fun xs => (op xs).map fun z => (z.rv, p.2)

section
variable {K : PySem.W.Frag} {B : Option Addr} {Fr H0 H0' H H' : Hp} {s s' : SS} {σ : L2.St} {v : V} {r : RV} {ta tb te : TE} {tt tu : TT} {tas : TA} {f g : DF} {c c' : DT} {fa : DA}
theorem bind_some {α β : Type} {o : Option α} {k : α → Option β} {b : β} (h : o.bind k = some b) : ∃ a, o = some a ∧ k a = some b := Option.bind_eq_some_iff.mp h
theorem map_some {α β : Type} {o : Option α} {k : α → β} {b : β} (h : o.map k = some b) : ∃ a, o = some a ∧ k a = b := Option.map_eq_some_iff.mp h
theorem HeldAll.up (e : Ex H0 H0') : ∀ {vs : List V} {rs : List RV}, HeldAll K B H0 σ vs rs → HeldAll K B H0' σ vs rs
  | _, _, .nil => .nil
  | _, _, .cons h t => .cons (h.up e) (HeldAll.up e t)
theorem HeldAll.dat (R : Rel K B Fr H0 s σ H) : ∀ {vs : List V} {rs : List RV} {xs : List PyData}, HeldAll K B H0 σ vs rs → datAll s rs = some xs → DqAll K H0 H vs xs
  | _, _, _, .nil, e => by
    obtain rfl := Option.some.inj e
    exact .nil
  | _, _, _, .cons h t, e => by
    obtain ⟨x, e1, e2⟩ := bind_some e
    obtain ⟨xs, e3, rfl⟩ := map_some e2
    exact .cons (h.dq R e1) (HeldAll.dat R t e3)
theorem HeldAll.take : ∀ {vs : List V} {rs : List RV} {xs : List PyData} {s s' : SS} {H0 : Hp}, Rel K B Fr H0 s σ H → HeldAll K B H0 σ vs rs → takeAll rs s = some (xs, s') → ∃ H0', Ex H0 H0' ∧ Rel K B Fr H0' s' σ H ∧ DpAll K H0' vs xs
  | _, _, _, _, _, _, R, .nil, e => by
    obtain ⟨rfl, rfl⟩ := Prod.mk.inj (Option.some.inj e)
    exact ⟨_, Ex.refl _, R, .nil⟩
  | _, _, _, _, _, _, R, .cons h t, e => by
    obtain ⟨⟨x, s1⟩, e1, e2⟩ := bind_some e
    obtain ⟨⟨xs, s2⟩, e3, e4⟩ := map_some e2
    obtain ⟨rfl, rfl⟩ := Prod.mk.inj e4
    obtain ⟨H1, x1, R1, d1⟩ := h.take R e1
    obtain ⟨H2, x2, R2, d2⟩ := HeldAll.take R1 (t.up x1) e3
    exact ⟨H2, x1.trans x2, R2, .cons (dp_ex x2 _ _ d1) d2⟩

theorem den_v (i : Nat) : DenE K (tVar i) (dV i) := by
  intro B Fr H0 s σ H r s' R e Q k
  unfold dV at e
  split at e
  · rename_i x hx
    obtain ⟨rfl, rfl⟩ := Prod.mk.inj (Option.some.inj e)
    obtain ⟨v, hv, hd⟩ := R.sl i _ hx
    exact ⟨v, hv, k v H H0 (Ex.refl _) R hd⟩
  · rename_i xs hx
    obtain ⟨rfl, rfl⟩ := Prod.mk.inj (Option.some.inj e)
    obtain ⟨p, vs, hv, _⟩ := R.sl i _ hx
    exact ⟨_, hv, k _ H H0 (Ex.refl _) R ⟨hv, xs, hx⟩⟩
  · rename_i hx
    obtain ⟨rfl, rfl⟩ := Prod.mk.inj (Option.some.inj e)
    obtain ⟨p, hp, hv⟩ := R.sl i _ hx
    exact ⟨_, hv, k _ H H0 (Ex.refl _) R ⟨p, hp, rfl⟩⟩
  · cases e
theorem den_c {x : PyData} {w : V} (h : ∀ H : Hp, Dp K H w x) : DenE K (tC w) (dC x) := by
  intro B Fr H0 s σ H r s' R e Q k
  obtain ⟨rfl, rfl⟩ := Prod.mk.inj (Option.some.inj e)
  exact k w H H0 (Ex.refl _) R (h _)
theorem den_op {rr : R2} {op : PyData → PyData → Option PV} (ho : Den2 K rr op) (ha : DenE K ta f) (hb : DenE K tb g) : DenE K (tOp rr ta tb) (dOp op f g) := by
  intro B Fr H0 s σ H r s' R e Q k
  obtain ⟨⟨r1, s1⟩, e1, e⟩ := bind_some e
  obtain ⟨⟨r2, s2⟩, e2, e⟩ := bind_some e
  obtain ⟨x, e3, e⟩ := bind_some e
  obtain ⟨y, e4, e⟩ := bind_some e
  obtain ⟨z, e5, e6⟩ := map_some e
  obtain ⟨rfl, rfl⟩ := Prod.mk.inj e6
  refine ha B Fr H0 s σ H r1 s1 R e1 _ fun v1 H1 H01 x1 R1 q1 => ?_
  obtain ⟨H02, x2, R2, q2⟩ := q1.hold R1
  refine hb B Fr H02 s1 σ H1 r2 s2 R2 e2 _ fun v2 H2 H03 x3 R3 q3 => ?_
  obtain ⟨H04, x4, R4, q4⟩ := q3.hold R3
  refine ho H04 H2 v1 v2 x y z Q R4.e0 ((q2.up (x3.trans x4)).dq R4 e3) (q4.dq R4 e4) e5 (out_of R4 fun v H' H0' x5 R5 q5 => ?_)
  exact k v H' H0' ((((x1.trans x2).trans x3).trans x4).trans x5) R5 q5
theorem den_un {rr : V → Hp → VK → Prop} {op : PyData → Option PV} (ho : Den1 K rr op) (ha : DenE K ta f) : DenE K (tUn rr ta) (dUn op f) := by
  intro B Fr H0 s σ H r s' R e Q k
  obtain ⟨⟨r1, s1⟩, e1, e⟩ := bind_some e
  obtain ⟨x, e3, e⟩ := bind_some e
  obtain ⟨z, e5, e6⟩ := map_some e
  obtain ⟨rfl, rfl⟩ := Prod.mk.inj e6
  refine ha B Fr H0 s σ H r1 s1 R e1 _ fun v1 H1 H01 x1 R1 q1 => ?_
  obtain ⟨H02, x2, R2, q2⟩ := q1.hold R1
  refine ho H02 H1 v1 x z Q R2.e0 (q2.dq R2 e3) e5 (out_of R2 fun v H' H0' x5 R5 q5 => ?_)
  exact k v H' H0' ((x1.trans x2).trans x5) R5 q5
theorem test_eq {s : SS} {b : Bool} {s' : SS} (h : dTest f s = some (b, s')) : f s = some (.d (.bool b), s') := by
  obtain ⟨⟨r, s1⟩, e1, e⟩ := bind_some h
  rw [e1]
  cases r with
  | d x =>
    cases x with
    | bool c =>
      obtain ⟨rfl, rfl⟩ := Prod.mk.inj (Option.some.inj e)
      rfl
    | _ => cases e
  | _ => cases e
theorem den_test (h : DenE K te f) : DenT K (tTest te) (dTest f) := by
  intro B Fr H0 s σ H b s' R e Q k
  refine h B Fr H0 s σ H _ s' R (test_eq e) _ fun v H1 H01 x1 R1 q1 => ?_
  cases q1
  exact ⟨b, rfl, k H1 H01 x1 R1⟩
theorem den_B (h : DenE K te f) : DenT K (tB te) (dTest f) := by
  intro B Fr H0 s σ H b s' R e Q k
  refine h B Fr H0 s σ H _ s' R (test_eq e) _ fun v H1 H01 x1 R1 q1 => ?_
  cases q1
  exact ⟨b, rfl, k H1 H01 x1 R1⟩
theorem den_not (h : DenT K tt c) : DenT K (tNot tt) (dNot c) := by
  intro B Fr H0 s σ H b s' R e Q k
  obtain ⟨⟨b1, s1⟩, e1, e⟩ := map_some e
  obtain ⟨rfl, rfl⟩ := Prod.mk.inj e
  exact h B Fr H0 s σ H b1 s1 R e1 _ fun H1 H01 x1 R1 => k H1 H01 x1 R1
theorem den_and (h : DenT K tt c) (h' : DenT K tu c') : DenT K (tAnd tt tu) (dAnd c c') := by
  intro B Fr H0 s σ H b s' R e Q k
  obtain ⟨⟨b1, s1⟩, e1, e⟩ := bind_some e
  refine h B Fr H0 s σ H b1 s1 R e1 _ fun H1 H01 x1 R1 => ?_
  cases b1 with
  | true => exact ite_tt (h' B Fr H01 s1 σ H1 b s' R1 e Q fun H2 H02 x2 R2 => k H2 H02 (x1.trans x2) R2)
  | false =>
    obtain ⟨rfl, rfl⟩ := Prod.mk.inj (Option.some.inj e)
    exact ite_ff (k H1 H01 x1 R1)
theorem den_or (h : DenT K tt c) (h' : DenT K tu c') : DenT K (tOr tt tu) (dOr c c') := by
  intro B Fr H0 s σ H b s' R e Q k
  obtain ⟨⟨b1, s1⟩, e1, e⟩ := bind_some e
  refine h B Fr H0 s σ H b1 s1 R e1 _ fun H1 H01 x1 R1 => ?_
  cases b1 with
  | false => exact ite_ff (h' B Fr H01 s1 σ H1 b s' R1 e Q fun H2 H02 x2 R2 => k H2 H02 (x1.trans x2) R2)
  | true =>
    obtain ⟨rfl, rfl⟩ := Prod.mk.inj (Option.some.inj e)
    exact ite_tt (k H1 H01 x1 R1)
theorem den_ifE (h : DenT K tt c) (ha : DenE K ta f) (hb : DenE K tb g) : DenE K (tIf tt ta tb) (dIf c f g) := by
  intro B Fr H0 s σ H r s' R e Q k
  obtain ⟨⟨b1, s1⟩, e1, e⟩ := bind_some e
  refine h B Fr H0 s σ H b1 s1 R e1 _ fun H1 H01 x1 R1 => ?_
  cases b1 with
  | true => exact ite_tt (ha B Fr H01 s1 σ H1 r s' R1 e Q fun v H2 H02 x2 R2 => k v H2 H02 (x1.trans x2) R2)
  | false => exact ite_ff (hb B Fr H01 s1 σ H1 r s' R1 e Q fun v H2 H02 x2 R2 => k v H2 H02 (x1.trans x2) R2)
theorem den_nil : DenA K tNil dNil := by
  intro B Fr H0 s σ H rs s' R e Q k
  obtain ⟨rfl, rfl⟩ := Prod.mk.inj (Option.some.inj e)
  exact k [] H H0 (Ex.refl _) R .nil
theorem den_cons (ha : DenE K ta f) (hr : DenA K tas fa) : DenA K (tCons ta tas) (dCons f fa) := by
  intro B Fr H0 s σ H rs s' R e Q k
  obtain ⟨⟨r1, s1⟩, e1, e⟩ := bind_some e
  obtain ⟨⟨rs2, s2⟩, e2, e⟩ := map_some e
  obtain ⟨rfl, rfl⟩ := Prod.mk.inj e
  refine ha B Fr H0 s σ H r1 s1 R e1 _ fun v1 H1 H01 x1 R1 q1 => ?_
  obtain ⟨H02, x2, R2, q2⟩ := q1.hold R1
  refine hr B Fr H02 s1 σ H1 rs2 s2 R2 e2 _ fun vs H2 H03 x3 R3 q3 => ?_
  exact k (v1 :: vs) H2 H03 ((x1.trans x2).trans x3) R3 (.cons (q2.up x3) q3)
theorem den_tup (h : DenA K tas fa) : DenE K (tTup tas) (dTup fa) := by
  intro B Fr H0 s σ H r s' R e Q k
  obtain ⟨⟨rs, s1⟩, e1, e⟩ := bind_some e
  obtain ⟨⟨xs, s2⟩, e2, e⟩ := bind_some e
  refine h B Fr H0 s σ H rs s1 R e1 _ fun vs H1 H01 x1 R1 q1 => ?_
  obtain ⟨H02, x2, R2, q2⟩ := q1.take R1 e2
  have e : (if xs.length ≤ 100000 then some (RV.d (.tuple xs), s2) else none) = some (r, s') := e
  by_cases hl : xs.length ≤ 100000
  · rw [if_pos hl] at e
    obtain ⟨rfl, rfl⟩ := Prod.mk.inj (Option.some.inj e)
    refine ⟨sz_of (by rw [dpa_len q2]; exact hl), fun p hp => ?_⟩
    exact (out_of (z := .t xs) R2 fun v H' H0' x5 R5 q5 => k v H' H0' ((x1.trans x2).trans x5) R5 q5).2 p vs hp q2
  · rw [if_neg hl] at e
    cases e
theorem den_lst (h : DenA K tas fa) : DenE K (tLst tas) (dLst fa) := by
  intro B Fr H0 s σ H r s' R e Q k
  obtain ⟨⟨rs, s1⟩, e1, e⟩ := bind_some e
  obtain ⟨⟨xs, s2⟩, e2, e⟩ := bind_some e
  refine h B Fr H0 s σ H rs s1 R e1 _ fun vs H1 H01 x1 R1 q1 => ?_
  obtain ⟨H02, x2, R2, q2⟩ := q1.take R1 e2
  have e : (if xs.length ≤ 100000 then some (RV.fresh xs, s2) else none) = some (r, s') := e
  by_cases hl : xs.length ≤ 100000
  · rw [if_pos hl] at e
    obtain ⟨rfl, rfl⟩ := Prod.mk.inj (Option.some.inj e)
    refine ⟨sz_of (by rw [dpa_len q2]; exact hl), fun p hp => ?_⟩
    exact (out_of (z := .l xs) R2 fun v H' H0' x5 R5 q5 => k v H' H0' ((x1.trans x2).trans x5) R5 q5) p vs hp q2
  · rw [if_neg hl] at e
    cases e
theorem den_cb {rr : List V → Hp → VK → Prop} {op : List PyData → Option PV} (ho : DenB K rr op) (h : DenA K tas fa) : DenE K (tCB rr tas) (dCB op fa) := by
  intro B Fr H0 s σ H r s' R e Q k
  obtain ⟨⟨rs, s1⟩, e1, e⟩ := bind_some e
  obtain ⟨xs, e2, e⟩ := bind_some e
  obtain ⟨z, e3, e⟩ := map_some e
  obtain ⟨rfl, rfl⟩ := Prod.mk.inj e
  refine h B Fr H0 s σ H rs s1 R e1 _ fun vs H1 H01 x1 R1 q1 => ?_
  exact ho H01 H1 vs xs z Q R1.e0 (q1.dat R1 e2) e3 (out_of R1 fun v H' H0' x5 R5 q5 => k v H' H0' (x1.trans x5) R5 q5)
end
end XN

set_option maxRecDepth 100000
set_option maxHeartbeats 4000000
/-! statements, walks, comprehensions on data -/
namespace XN
open PySem PySem.Spec PyProof.Rows L2 Evl

inductive OutS where
  | nx
  | rt (r : RV)
  | bk
  | ct
abbrev DS := SS → Option (OutS × SS)
abbrev DI := SS → Option (List PyData × SS)
abbrev DG := PyData → SS → Option SS
section
variable (K : PySem.W.Frag)
def EndIs (B : Option Addr) (Fr H0 : Hp) (D : Ends) (s' : SS) : OutS → Prop
  | .nx => ∀ σ' H' H0', Ex H0 H0' → Rel K B Fr H0' s' σ' H' → D.nx σ' H'
  | .bk => ∀ σ' H' H0', Ex H0 H0' → Rel K B Fr H0' s' σ' H' → D.bk σ' H'
  | .ct => ∀ σ' H' H0', Ex H0 H0' → Rel K B Fr H0' s' σ' H' → D.ct σ' H'
  | .rt r => ∀ v σ' H' H0', Ex H0 H0' → Rel K B Fr H0' s' σ' H' → Res K B Fr H0' s' σ' H' v r → D.rt v H'
def DenS (ts : TS) (f : DS) : Prop := ∀ (B : Option Addr) (Fr H0 : Hp) (s : SS) (σ : L2.St) (H : Hp) (o : OutS) (s' : SS), Rel K B Fr H0 s σ H → f s = some (o, s') → ∀ D : Ends, EndIs K B Fr H0 D s' o → ts D σ H
/-- what is walked: its items are data -/
def DenI (wi : TI) (f : DI) : Prop := ∀ (B : Option Addr) (Fr H0 : Hp) (s : SS) (σ : L2.St) (H : Hp) (xs : List PyData) (s' : SS), Rel K B Fr H0 s σ H → f s = some (xs, s') → ∀ R : It → Hp → Prop,
  (∀ (J : It) (H' H0' : Hp) (G : Hp → Prop) (Y : Nat → Hp → V → Hp → Prop), Ex H0 H0' → Rel K B Fr H0' s' σ H' → Walk J xs.length G Y → (∀ Ha, Ex H0' Ha → G Ha) →
    (∀ i Ha x Hb, Ex H0' Ha → Y i Ha x Hb → Hb = Ha ∧ ∃ d, xs[i]? = some d ∧ Dp K H0' x d) → R J H') → wi σ H R
def DenG (g : TG) (f : DG) : Prop := ∀ (B : Option Addr) (Fr H0 : Hp) (s : SS) (σ : L2.St) (H : Hp) (x : PyData) (v : V) (s' : SS), Rel K B Fr H0 s σ H → Dp K H0 v x → f x s = some s' → ∀ Q : L2.St → Hp → Prop,
  (∀ σ' H' H0', Ex H0 H0' → Rel K B Fr H0' s' σ' H' → Q σ' H') → g v σ H Q
end
structure DSt (X : Cx) (st : Stmt) (ts : PySem.W.Frag → TS) (f : DS) : Prop where
  ps : PS X st (ts X.K)
  den : DenS X.K (ts X.K) f
structure DSs (X : Cx) (st : List Stmt) (ts : PySem.W.Frag → TS) (f : DS) : Prop where
  ps : PSs X st (ts X.K)
  den : DenS X.K (ts X.K) f
structure DIt (X : Cx) (tg iter : Expr) (wi : PySem.W.Frag → TI) (f : DI) : Prop where
  pi : PI X tg iter (wi X.K)
  den : DenI X.K (wi X.K) f
structure DGt (X : Cx) (tg : Expr) (g : PySem.W.Frag → TG) (f : DG) : Prop where
  pg : PG X tg (g X.K)
  den : DenG X.K (g X.K) f

/-! ### the functions -/
def dNx : DS := fun s => some (.nx, s)
def dBk : DS := fun s => some (.bk, s)
def dCt : DS := fun s => some (.ct, s)
def dSeq (f g : DS) : DS := fun s => (f s).bind fun p => match p.1 with
  | .nx => g p.2
  | o => some (o, p.2)
def dSet (i : Nat) (f : DF) : DS := fun s => (f s).bind fun p => if i < p.2.e.length then (p.2.put i p.1).map fun s1 => (.nx, s1) else none
def dDrop (f : DF) : DS := fun s => (f s).map fun p => (.nx, p.2)
def dRet (f : DF) : DS := fun s => (f s).map fun p => (.rt p.1, p.2)
def dRetN : DS := fun s => some (.rt (.d .none), s)
def dIfS (c : DT) (f g : DS) : DS := fun s => (c s).bind fun p => if p.1 = true then f p.2 else g p.2
def dName (i : Nat) : DG := fun x s => if i < s.e.length then some ⟨s.e.set i (some (.d x)), s.b⟩ else none
def forFold (g : DG) (body : DS) : List PyData → SS → Option (OutS × SS)
  | [], s => some (.nx, s)
  | x :: xs, s => (g x s).bind fun s1 => (body s1).bind fun p => match p.1 with
    | .nx => forFold g body xs p.2
    | .ct => forFold g body xs p.2
    | .bk => some (.nx, p.2)
    | .rt r => some (.rt r, p.2)
def dFor (it : DI) (g : DG) (body : DS) : DS := fun s => (it s).bind fun p => forFold g body p.1 p.2
def whFold (c : DT) (body : DS) : Nat → SS → Option (OutS × SS)
  | 0, _ => none
  | n + 1, s => (c s).bind fun q => if q.1 = true then (body q.2).bind fun p => match p.1 with
      | .nx => whFold c body n p.2
      | .ct => whFold c body n p.2
      | .bk => some (.nx, p.2)
      | .rt r => some (.rt r, p.2)
    else some (.nx, q.2)
def dWhile (c : DT) (body : DS) : DS := fun s => whFold c body 1000000 s
/-- the items of data that can be walked -/
def items : PyData → Option (List PyData)
  | .list xs => some xs
  | .tuple xs => some xs
  | .str z => some (z.cps.toList.map fun c => .str ⟨#[c]⟩)
  | _ => none
def dItems (f : DF) : DI := fun s => (f s).bind fun p => (p.1.hold.take p.2).bind fun q => (items q.1).map fun xs => (xs, q.2)
def rngI (lo : Int) (n : Nat) : List PyData := (List.range n).map fun (i : Nat) => PyData.int (lo + (i : Int))
def dRng1 (f : DA) : DI := fun s => (f s).bind fun p => match p.1 with
  | [.d (.int n)] => if -1000000000 < n ∧ n < 1000000000 then some (rngI 0 n.toNat, p.2) else none
  | _ => none
def dRng2 (f : DA) : DI := fun s => (f s).bind fun p => match p.1 with
  | [.d (.int a), .d (.int b)] => if -1000000000 < a ∧ a < 1000000000 ∧ -1000000000 < b ∧ b < 1000000000 then some (rngI a (b - a).toNat, p.2) else none
  | _ => none

section
variable {K : PySem.W.Frag} {B : Option Addr} {Fr H0 H0' H H' : Hp} {s s' : SS} {σ : L2.St} {v : V} {r : RV} {ta tb te : TE} {tt tu : TT} {tas : TA} {f g : DF} {c c' : DT} {fa : DA} {ts us : TS} {fs gs : DS} {D : Ends} {o : OutS}
theorem EndIs.up (e : Ex H0 H0') (h : EndIs K B Fr H0 D s o) : EndIs K B Fr H0' D s o := by
  cases o with
  | nx => exact fun σ' H' H1 x R => h σ' H' H1 (e.trans x) R
  | bk => exact fun σ' H' H1 x R => h σ' H' H1 (e.trans x) R
  | ct => exact fun σ' H' H1 x R => h σ' H' H1 (e.trans x) R
  | rt r => exact fun v σ' H' H1 x R => h v σ' H' H1 (e.trans x) R
theorem den_nx : DenS K tNext dNx := by
  intro B Fr H0 s σ H o s' R e D k
  obtain ⟨rfl, rfl⟩ := Prod.mk.inj (Option.some.inj e)
  exact k σ H H0 (Ex.refl _) R
theorem den_bk : DenS K tBreak dBk := by
  intro B Fr H0 s σ H o s' R e D k
  obtain ⟨rfl, rfl⟩ := Prod.mk.inj (Option.some.inj e)
  exact k σ H H0 (Ex.refl _) R
theorem den_ct : DenS K tCont dCt := by
  intro B Fr H0 s σ H o s' R e D k
  obtain ⟨rfl, rfl⟩ := Prod.mk.inj (Option.some.inj e)
  exact k σ H H0 (Ex.refl _) R
theorem den_seq (h1 : DenS K ts fs) (h2 : DenS K us gs) : DenS K (tSeq ts us) (dSeq fs gs) := by
  intro B Fr H0 s σ H o s' R e D k
  obtain ⟨⟨o1, s1⟩, e1, e⟩ := bind_some e
  refine h1 B Fr H0 s σ H o1 s1 R e1 _ ?_
  cases o1 with
  | nx => exact fun σ' H' H1 x R1 => h2 B Fr H1 s1 σ' H' o s' R1 e D (k.up x)
  | bk =>
    obtain ⟨rfl, rfl⟩ := Prod.mk.inj (Option.some.inj e)
    exact k
  | ct =>
    obtain ⟨rfl, rfl⟩ := Prod.mk.inj (Option.some.inj e)
    exact k
  | rt r =>
    obtain ⟨rfl, rfl⟩ := Prod.mk.inj (Option.some.inj e)
    exact k
theorem den_set {i : Nat} (h : DenE K te f) : DenS K (tAsg te (gName i)) (dSet i f) := by
  intro B Fr H0 s σ H o s' R e D k
  obtain ⟨⟨r, s1⟩, e1, e⟩ := bind_some e
  have e : (if i < s1.e.length then (s1.put i r).map fun s1 => (OutS.nx, s1) else none) = some (o, s') := e
  by_cases il : i < s1.e.length
  · rw [if_pos il] at e
    obtain ⟨s2, e2, e3⟩ := map_some e
    obtain ⟨rfl, rfl⟩ := Prod.mk.inj e3
    refine h B Fr H0 s σ H r s1 R e1 _ fun v H1 H01 x1 R1 q1 => ?_
    obtain ⟨H02, x2, R2⟩ := R1.put (by rw [← R1.len]; exact il) q1 e2
    exact k _ H1 H02 (x1.trans x2) R2
  · rw [if_neg il] at e
    cases e
theorem den_drop (h : DenE K te f) : DenS K (tDrop te) (dDrop f) := by
  intro B Fr H0 s σ H o s' R e D k
  obtain ⟨⟨r, s1⟩, e1, e⟩ := map_some e
  obtain ⟨rfl, rfl⟩ := Prod.mk.inj e
  exact h B Fr H0 s σ H r s1 R e1 _ fun v H1 H01 x1 R1 q1 => k σ H1 H01 x1 R1
theorem den_ret (h : DenE K te f) : DenS K (tRet te) (dRet f) := by
  intro B Fr H0 s σ H o s' R e D k
  obtain ⟨⟨r, s1⟩, e1, e⟩ := map_some e
  obtain ⟨rfl, rfl⟩ := Prod.mk.inj e
  exact h B Fr H0 s σ H r s1 R e1 _ fun v H1 H01 x1 R1 q1 => k v σ H1 H01 x1 R1 q1
theorem den_retN : DenS K tRetN dRetN := by
  intro B Fr H0 s σ H o s' R e D k
  obtain ⟨rfl, rfl⟩ := Prod.mk.inj (Option.some.inj e)
  exact k .non σ H H0 (Ex.refl _) R Dp.non
theorem den_ifS (h : DenT K tt c) (h1 : DenS K ts fs) (h2 : DenS K us gs) : DenS K (tIfS tt ts us) (dIfS c fs gs) := by
  intro B Fr H0 s σ H o s' R e D k
  obtain ⟨⟨b1, s1⟩, e1, e⟩ := bind_some e
  refine h B Fr H0 s σ H b1 s1 R e1 _ fun H1 H01 x1 R1 => ?_
  cases b1 with
  | true => exact ite_tt (h1 B Fr H01 s1 σ H1 o s' R1 e D (k.up x1))
  | false => exact ite_ff (h2 B Fr H01 s1 σ H1 o s' R1 e D (k.up x1))
theorem den_name (i : Nat) : DenG K (gName i) (dName i) := by
  intro B Fr H0 s σ H x v s' R d e Q k
  unfold dName at e
  by_cases il : i < s.e.length
  · rw [if_pos il] at e
    obtain rfl := Option.some.inj e
    exact k _ H H0 (Ex.refl _) (R.putW (by rw [← R.len]; exact il) ⟨v, rfl, d⟩ fun _ z => nomatch z)
  · rw [if_neg il] at e
    cases e
theorem den_for {wi : TI} {tg : TG} {fi : DI} {fg : DG} (hi : DenI K wi fi) (hg : DenG K tg fg) (hb : DenS K ts fs) : DenS K (tFor wi tg ts) (dFor fi fg fs) := by
  intro B Fr H0 s σ H o s' R e D k
  obtain ⟨⟨xs, s1⟩, e1, e⟩ := bind_some e
  refine hi B Fr H0 s σ H xs s1 R e1 _ fun J H1 H01 G Y x1 R1 W hG hY => ?_
  refine for_it W (fun i σ' H' => ∃ H02 s2, Ex H01 H02 ∧ Rel K B Fr H02 s2 σ' H' ∧ forFold fg fs (xs.drop i) s2 = some (o, s')) ⟨H01, s1, Ex.refl _, R1, e⟩ (fun i σ' H' _ hP => ?_) (fun i x σ' Ha Hb hn hP y => ?_) fun σ' H' hP => ?_
  · obtain ⟨H02, s2, x2, R2, _⟩ := hP
    exact hG H' (x2.trans R2.e0)
  · obtain ⟨H02, s2, x2, R2, e2⟩ := hP
    obtain ⟨rfl, d, hd, dd⟩ := hY i Ha x Hb (x2.trans R2.e0) y
    have ed : xs.drop i = d :: xs.drop (i + 1) := by
      obtain ⟨hl, e9⟩ := List.getElem?_eq_some_iff.mp hd
      rw [← e9]
      exact List.drop_eq_getElem_cons hl
    rw [ed] at e2
    obtain ⟨s3, e3, e2⟩ := bind_some e2
    obtain ⟨⟨o4, s4⟩, e4, e2⟩ := bind_some e2
    refine hg B Fr H02 s2 σ' Hb d x s3 R2 (dp_ex x2 _ _ dd) e3 _ fun σ3 H3 H03 x3 R3 => ?_
    refine hb B Fr H03 s3 σ3 H3 o4 s4 R3 e4 _ ?_
    cases o4 with
    | nx => exact fun σ5 H5 H05 x5 R5 => ⟨H05, s4, (x2.trans x3).trans x5, R5, e2⟩
    | ct => exact fun σ5 H5 H05 x5 R5 => ⟨H05, s4, (x2.trans x3).trans x5, R5, e2⟩
    | bk =>
      obtain ⟨rfl, rfl⟩ := Prod.mk.inj (Option.some.inj e2)
      exact fun σ5 H5 H05 x5 R5 => k σ5 H5 H05 (((x1.trans x2).trans x3).trans x5) R5
    | rt r =>
      obtain ⟨rfl, rfl⟩ := Prod.mk.inj (Option.some.inj e2)
      exact fun v σ5 H5 H05 x5 R5 q5 => k v σ5 H5 H05 (((x1.trans x2).trans x3).trans x5) R5 q5
  · obtain ⟨H02, s2, x2, R2, e2⟩ := hP
    rw [List.drop_length] at e2
    obtain ⟨rfl, rfl⟩ := Prod.mk.inj (Option.some.inj e2)
    exact k σ' H' H02 (x1.trans x2) R2
theorem den_while (hc : DenT K tt c) (hb : DenS K ts fs) : DenS K (tWhile tt ts) (dWhile c fs) := by
  intro B Fr H0 s σ H o s' R e D k
  refine ⟨fun m σ' H' => ∃ H02 s2, Ex H0 H02 ∧ Rel K B Fr H02 s2 σ' H' ∧ whFold c fs m s2 = some (o, s'), ⟨_, H0, s, Ex.refl _, R, e⟩, ?_⟩
  rintro m σ' H' ⟨H02, s2, x2, R2, e2⟩
  cases m with
  | zero => cases e2
  | succ m =>
    obtain ⟨⟨b3, s3⟩, e3, e2⟩ := bind_some e2
    refine hc B Fr H02 s2 σ' H' b3 s3 R2 e3 _ fun H3 H03 x3 R3 => ?_
    cases b3 with
    | false =>
      have e2 : some (OutS.nx, s3) = some (o, s') := e2
      obtain ⟨rfl, rfl⟩ := Prod.mk.inj (Option.some.inj e2)
      exact k σ' H3 H03 (x2.trans x3) R3
    | true =>
      obtain ⟨⟨o4, s4⟩, e4, e2⟩ := bind_some (show ((fs s3).bind fun p => _) = _ from e2)
      refine ⟨fun σ5 H5 => ∃ H05, Ex H0 H05 ∧ Rel K B Fr H05 s4 σ5 H5 ∧ whFold c fs m s4 = some (o, s'), fun σ5 H5 ⟨H05, x5, R5, e5⟩ => ⟨m, Nat.lt_succ_self m, H05, s4, x5, R5, e5⟩, ?_⟩
      refine hb B Fr H03 s3 σ' H3 o4 s4 R3 e4 _ ?_
      cases o4 with
      | nx => exact fun σ5 H5 H05 x5 R5 => ⟨H05, (x2.trans x3).trans x5, R5, e2⟩
      | ct => exact fun σ5 H5 H05 x5 R5 => ⟨H05, (x2.trans x3).trans x5, R5, e2⟩
      | bk =>
        obtain ⟨rfl, rfl⟩ := Prod.mk.inj (Option.some.inj e2)
        exact fun σ5 H5 H05 x5 R5 => k σ5 H5 H05 ((x2.trans x3).trans x5) R5
      | rt r =>
        obtain ⟨rfl, rfl⟩ := Prod.mk.inj (Option.some.inj e2)
        exact fun v σ5 H5 H05 x5 R5 q5 => k v σ5 H5 H05 ((x2.trans x3).trans x5) R5 q5
end
end XN

set_option maxRecDepth 100000
set_option maxHeartbeats 4000000
/-! what is walked; comprehensions; methods of a slot's list; the box; defs -/
namespace XN
open PySem PySem.Spec PyProof.Rows L2 Evl

/-! ### what is walked -/
def iAny (K : PySem.W.Frag) (te : TE) : TI := fun σ H R => te σ H fun x H1 => (∃ a, x = .ref a ∧ (∃ xs, SqL K H1 a xs) ∧ R (Itl K a) H1) ∨ (∃ a, x = .ref a ∧ (∃ xs, SqT K H1 a xs) ∧ R (Itt K a) H1) ∨ ∃ z, x = .str z ∧ R (Its z) H1
section
variable {X : Cx} {tg : Expr}
theorem pi_any {l : Expr} {tl : TE} (hl : PE X l tl) : PI X tg l (iAny X.K tl) := by
  refine ⟨fun pins s σ H R I h => ?_⟩
  refine thn (hl.run pins s σ H _ I h) fun v s1 ⟨x, H1, I1, r1, q1⟩ => ?_
  rcases q1 with ⟨a, e, ⟨xs, hq⟩, q⟩ | ⟨a, e, ⟨xs, hq⟩, q⟩ | ⟨z, e, q⟩
  · subst e
    cases r1
    obtain ⟨its, rv, p, hz⟩ := I1.list hq
    refine wpAny_pyIter_list p.isList ?_
    refine ⟨s1.heap.objs.size, [s1.heap.objs.size], _, _, H1, rfl, I1.kept (t' := s1.toks) fun b o e => Heap.get?_push_of_some _ e, turn_list a _, ⟨_, Heap.get?_push_size _ rfl, rfl, rfl⟩, fun b hb => ?_, q⟩
    have e : b = s1.heap.objs.size := by simpa using hb
    subst e
    exact I1.fpOk (Nat.le_refl _) (I1.hok.fresh (Nat.le_refl _))
  · subst e
    cases r1
    obtain ⟨its, rv, p, hz⟩ := I1.tuple hq
    refine wpAny_pyIter_tuple (show s1.heap.IsTuple a its.toArray from p) ?_
    refine ⟨s1.heap.objs.size, [s1.heap.objs.size], _, _, H1, rfl, I1.kept (t' := s1.toks) fun b o e => Heap.get?_push_of_some _ e, turn_tuple a _, ⟨_, Heap.get?_push_size _ rfl, rfl, rfl⟩, fun b hb => ?_, q⟩
    have e : b = s1.heap.objs.size := by simpa using hb
    subst e
    exact I1.fpOk (Nat.le_refl _) (I1.hok.fresh (Nat.le_refl _))
  · subst e
    obtain ⟨t, rfl⟩ := r1
    cases ha : z.cps.all (· < 128)
    · exact wpAny_pyIter_wide ha (pi_one (tk := s1.toks) I1 _ (turn_str _ z t "str_iterator" (.inr rfl)) ⟨_, Heap.get?_push_size _ rfl, rfl, rfl⟩ q)
    · exact wpAny_pyIter_ascii ha (pi_one (tk := s1.toks) I1 _ (turn_str _ z t "str_ascii_iterator" (.inl rfl)) ⟨_, Heap.get?_push_size _ rfl, rfl, rfl⟩ q)
end
section
variable {K : PySem.W.Frag} {B : Option Addr} {Fr H0 H0' H H' : Hp} {s s' : SS} {σ : L2.St} {v : V} {r : RV} {ta tb te : TE} {tt tu : TT} {tas : TA} {f g : DF} {c c' : DT} {fa : DA} {ts us : TS} {fs gs : DS} {D : Ends} {o : OutS}
theorem den_items (h : DenE K te f) : DenI K (iAny K te) (dItems f) := by
  intro B Fr H0 s σ H xs s' R e Rw k
  obtain ⟨⟨r1, s1⟩, e1, e⟩ := bind_some e
  obtain ⟨⟨x, s2⟩, e2, e⟩ := bind_some e
  obtain ⟨ys, e3, e4⟩ := map_some e
  obtain ⟨rfl, rfl⟩ := Prod.mk.inj e4
  refine h B Fr H0 s σ H r1 s1 R e1 _ fun v H1 H01 x1 R1 q1 => ?_
  obtain ⟨H02, x2, R2, q2⟩ := q1.hold R1
  obtain ⟨H03, x3, R3, d⟩ := q2.take R2 e2
  have at_ : ∀ {vs : List V} {i : Nat} {y : V}, DpAll K H03 vs ys → vs[i]? = some y → ∃ d, ys[i]? = some d ∧ Dp K H03 y d := by
    intro vs i y da hy
    have hi : i < ys.length := by
      rw [← dpa_len da]
      exact (List.getElem?_eq_some_iff.mp hy).1
    obtain ⟨w, hw, dw⟩ := dpa_get da (List.getElem?_eq_getElem hi)
    rw [hy] at hw
    cases hw
    exact ⟨_, List.getElem?_eq_getElem hi, dw⟩
  cases x with
  | list zs =>
    obtain rfl := Option.some.inj e3
    cases d with
    | lst hs ha =>
      rename_i a vs
      refine .inl ⟨_, rfl, ⟨vs, ex_l R3.e0 hs⟩, k _ H1 H03 (fun Ha => SqL K Ha a vs) (YAt vs) ((x1.trans x2).trans x3) R3 ?_ (fun Ha x => ex_l x hs) fun i Ha y Hb x q => ⟨q.1, at_ ha q.2⟩⟩
      rw [← dpa_len ha]
      exact walk_list
  | tuple zs =>
    obtain rfl := Option.some.inj e3
    cases d with
    | tup hs ha =>
      rename_i a vs
      refine .inr (.inl ⟨_, rfl, ⟨vs, ex_t R3.e0 hs⟩, k _ H1 H03 (fun Ha => SqT K Ha a vs) (YAt vs) ((x1.trans x2).trans x3) R3 ?_ (fun Ha x => ex_t x hs) fun i Ha y Hb x q => ⟨q.1, at_ ha q.2⟩⟩)
      rw [← dpa_len ha]
      exact walk_tup
  | str z =>
    obtain rfl := Option.some.inj e3
    cases d
    refine .inr (.inr ⟨z, rfl, k _ H1 H03 (fun _ => True) (fun i H v H' => H' = H ∧ ∃ c, z.cps[i]? = some c ∧ v = .str ⟨#[c]⟩) ((x1.trans x2).trans x3) R3 ?_ (fun _ _ => trivial) fun i Ha y Hb x q => ⟨q.1, ?_⟩⟩)
    · have e : (z.cps.toList.map fun c => PyData.str ⟨#[c]⟩).length = z.cps.size := by rw [List.length_map, Array.length_toList]
      rw [e]
      exact walk_str
    · obtain ⟨_, c, hc, rfl⟩ := q
      refine ⟨.str ⟨#[c]⟩, ?_, .str _⟩
      rw [List.getElem?_map, Array.getElem?_toList, hc]
      rfl
  | _ => cases e3
theorem held_int {n : Int} {v : V} (h : Held K B H0 σ v (.d (.int n))) : v = .int n := by cases h; rfl
theorem den_rng (lo : Int) (n : Nat) {R : It → Hp → Prop} {xs : List PyData} (hx : xs = rngI lo n) (Rl : Rel K B Fr H0 s σ H)
    (k : ∀ (J : It) (H' H0' : Hp) (G : Hp → Prop) (Y : Nat → Hp → V → Hp → Prop), Ex H0 H0' → Rel K B Fr H0' s σ H' → Walk J xs.length G Y → (∀ Ha, Ex H0' Ha → G Ha) →
    (∀ i Ha x Hb, Ex H0' Ha → Y i Ha x Hb → Hb = Ha ∧ ∃ d, xs[i]? = some d ∧ Dp K H0' x d) → R J H') : R (Itr lo n) H := by
  have e : xs.length = n := by
    rw [hx]
    unfold rngI
    rw [List.length_map, List.length_range]
  refine k _ H H0 (fun _ => True) (fun i Ha x Hb => Hb = Ha ∧ x = .int (lo + i) ∧ i < n) (Ex.refl _) Rl ?_ (fun _ _ => trivial) fun i Ha x Hb _ q => ⟨q.1, .int (lo + i), ?_, ?_⟩
  · rw [e]
    exact ⟨fun _ _ hi _ => hi, fun _ _ => Nat.le_refl _, fun i _ _ _ hi _ y => ⟨y.1, y.2, hi⟩⟩
  · rw [hx]
    unfold rngI
    rw [List.getElem?_map, List.getElem?_range q.2.2]
    rfl
  · rw [q.2.1]
    exact .int _
theorem den_rng1 (h : DenA K tas fa) : DenI K (iRng1 tas) (dRng1 fa) := by
  intro B Fr H0 s σ H xs s' R e Rw k
  obtain ⟨⟨rs, s1⟩, e1, e⟩ := bind_some e
  refine h B Fr H0 s σ H rs s1 R e1 _ fun vs H1 H01 x1 R1 q1 => ?_
  dsimp only at e
  split at e
  · rename_i n
    split at e
    · rename_i hn
      obtain ⟨rfl, rfl⟩ := Prod.mk.inj (Option.some.inj e)
      cases q1 with
      | cons h1 t1 =>
        cases t1
        obtain rfl := held_int h1
        exact ⟨n, rfl, by omega, by omega, den_rng 0 n.toNat rfl R1 fun J H' H0' G Y x R' => k J H' H0' G Y (x1.trans x) R'⟩
    · cases e
  · cases e
theorem den_rng2 (h : DenA K tas fa) : DenI K (iRng2 tas) (dRng2 fa) := by
  intro B Fr H0 s σ H xs s' R e Rw k
  obtain ⟨⟨rs, s1⟩, e1, e⟩ := bind_some e
  refine h B Fr H0 s σ H rs s1 R e1 _ fun vs H1 H01 x1 R1 q1 => ?_
  dsimp only at e
  split at e
  · rename_i m n
    split at e
    · rename_i hn
      obtain ⟨rfl, rfl⟩ := Prod.mk.inj (Option.some.inj e)
      cases q1 with
      | cons h1 t1 =>
        cases t1 with
        | cons h2 t2 =>
          cases t2
          obtain rfl := held_int h1
          obtain rfl := held_int h2
          exact ⟨m, n, rfl, ⟨by omega, by omega, by omega, by omega⟩, den_rng m (n - m).toNat rfl R1 fun J H' H0' G Y x R' => k J H' H0' G Y (x1.trans x) R'⟩
    · cases e
  · cases e
end
end XN

set_option maxRecDepth 100000
set_option maxHeartbeats 4000000
/-! comprehensions on data -/
namespace XN
open PySem PySem.Spec PyProof.Rows L2 Evl

abbrev DIo := SS → Option ((List PyData × Option Nat) × SS)
def Chk (o : Option Nat) (xs : List PyData) (s : SS) : Prop := ∀ i, o = some i → s.at i = some xs
def wipeE (e : List (Option SV)) : List Nat → List (Option SV)
  | [] => e
  | v :: vs => (wipeE e vs).set v none
def SS.wipe (s : SS) (vs : List Nat) : SS := ⟨wipeE s.e vs, s.b⟩
def keepD : Option (Option SV) → Option SV
  | some (some (.d x)) => some (.d x)
  | _ => none
def restE (old now : List (Option SV)) : List Nat → List (Option SV)
  | [] => now
  | v :: vs => (restE old now vs).set v (keepD (old[v]?))
section
variable (K : PySem.W.Frag)
def DenIo (vs : List Nat) (wi : TI) (f : DIo) : Prop := ∀ (B : Option Addr) (Fr H0 : Hp) (s : SS) (σ : L2.St) (H : Hp) (xs : List PyData) (o : Option Nat) (s' : SS), Rel K B Fr H0 s σ H → f s = some ((xs, o), s') → ∀ R : It → Hp → Prop,
  (∀ (J : It) (H' H0' : Hp) (G : Hp → Prop) (Y : Nat → Hp → V → Hp → Prop), Ex H0 H0' → Rel K B Fr H0' s' σ H' → Walk J xs.length G Y →
    (∀ Fa Ha H0a sa, Ex H0' H0a → Rel K B Fa H0a sa (wipe σ vs) Ha → Chk o xs sa → G Ha ∧ ∀ i x Hb, Y i Ha x Hb → Hb = Ha ∧ ∃ d, xs[i]? = some d ∧ Dp K H0a x d) → R J H') → wi σ H R
def DenGw (vs : List Nat) (g : TG) (f : DG) : Prop := ∀ (B : Option Addr) (Fr H0 : Hp) (s : SS) (σ : L2.St) (H : Hp) (x : PyData) (v : V) (s' : SS), Rel K B Fr H0 s σ H → Dp K H0 v x → f x s = some s' → ∀ Q : L2.St → Hp → Prop,
  (∀ σ' H' H0', Ex H0 H0' → Rel K B Fr H0' s' σ' H' → wipe σ' vs = wipe σ vs → Q σ' H') → g v σ H Q
end
open Classical in
noncomputable def lcFold (vs : List Nat) (o : Option Nat) (all : List PyData) (g : DG) (t : DT) (f : DF) : List PyData → SS → Option (List PyData × SS)
  | [], s => if Chk o all s then some ([], s) else none
  | x :: xs, s => if Chk o all s then (g x s).bind fun s1 => (t s1).bind fun p => if p.1 = true then
      (f p.2).bind fun q => (q.1.hold.take q.2).bind fun d => (lcFold vs o all g t f xs (d.2.wipe vs)).map fun r => (d.1 :: r.1, r.2)
      else lcFold vs o all g t f xs (p.2.wipe vs) else none
noncomputable def dLc (vs : List Nat) (it : DIo) (g : DG) (t : DT) (f : DF) : DF := fun s => (it s).bind fun p => (lcFold vs p.1.2 p.1.1 g t f p.1.1 (p.2.wipe vs)).bind fun r =>
  if r.1.length < 100000 then some (.fresh r.1, ⟨restE p.2.e r.2.e vs, r.2.b⟩) else none
def dIo (f : DI) : DIo := fun s => (f s).map fun p => ((p.1, none), p.2)
def dItV (vs : List Nat) (i : Nat) : DIo := fun s => match s.e[i]? with
  | some (some (.d x)) => (items x).map fun xs => ((xs, none), s)
  | some (some (.own xs)) => if i ∈ vs then none else some ((xs, some i), s)
  | _ => none
def dYes : DT := fun s => some (true, s)
section
variable {K : PySem.W.Frag} {B : Option Addr} {Fr H0 H0' H H' : Hp} {s s' : SS} {σ : L2.St} {v : V} {r : RV} {ta tb te : TE} {tt tu : TT} {tas : TA} {f g : DF} {c c' : DT} {fa : DA} {ts us : TS} {fs gs : DS} {D : Ends} {o : OutS}
theorem wipeE_len (e : List (Option SV)) : ∀ vs : List Nat, (wipeE e vs).length = e.length
  | [] => rfl
  | v :: vs => by
    unfold wipeE
    rw [List.length_set, wipeE_len e vs]
theorem wipeE_some {e : List (Option SV)} {i : Nat} {w : SV} : ∀ {vs : List Nat}, (wipeE e vs)[i]? = some (some w) → e[i]? = some (some w) ∧ i ∉ vs
  | [], h => ⟨h, by simp⟩
  | u :: vs, h => by
    unfold wipeE at h
    by_cases hi : u = i
    · subst hi
      by_cases hv : u < (wipeE e vs).length
      · rw [List.getElem?_set_self hv] at h; cases h
      · rw [List.getElem?_eq_none (by simpa using hv)] at h; cases h
    · rw [List.getElem?_set_ne hi] at h
      obtain ⟨h1, h2⟩ := wipeE_some h
      exact ⟨h1, by simp only [List.mem_cons, not_or]; exact ⟨fun e => hi e.symm, h2⟩⟩
theorem wipe_get {σ : L2.St} {i : Nat} : ∀ {vs : List Nat}, i ∉ vs → (wipe σ vs)[i]? = σ[i]?
  | [], _ => rfl
  | u :: vs, h => by
    unfold L2.wipe
    rw [List.getElem?_set_ne (fun e => h (by rw [e]; exact List.mem_cons_self ..))]
    exact wipe_get fun m => h (List.mem_cons_of_mem _ m)
theorem wipe_set {σ : L2.St} {i : Nat} {x : Option V} : ∀ {vs : List Nat}, i ∈ vs → wipe (σ.set i x) vs = wipe σ vs
  | u :: vs, h => by
    unfold L2.wipe
    by_cases hu : i ∈ vs
    · rw [wipe_set hu]
    · have e : i = u := by
        rcases List.mem_cons.mp h with e | m
        · exact e
        · exact absurd m hu
      subst e
      have : ∀ ws : List Nat, i ∉ ws → wipe (σ.set i x) ws = (wipe σ ws).set i x := by
        intro ws
        induction ws with
        | nil => intro _; rfl
        | cons w ws ih =>
          intro hm
          unfold L2.wipe
          rw [ih fun m => hm (List.mem_cons_of_mem _ m), List.set_comm _ _ (fun e => hm (by rw [e]; exact List.mem_cons_self ..))]
      rw [this vs hu, List.set_set]
theorem restE_len (a b : List (Option SV)) : ∀ vs : List Nat, (restE a b vs).length = b.length
  | [] => rfl
  | v :: vs => by
    unfold restE
    rw [List.length_set, restE_len a b vs]
theorem restE_some {a b : List (Option SV)} {i : Nat} {w : SV} : ∀ {vs : List Nat}, (restE a b vs)[i]? = some (some w) → (i ∉ vs ∧ b[i]? = some (some w)) ∨ ∃ x, w = .d x ∧ a[i]? = some (some (.d x))
  | [], h => .inl ⟨by simp, h⟩
  | u :: vs, h => by
    unfold restE at h
    by_cases hi : u = i
    · subst hi
      by_cases hv : u < (restE a b vs).length
      · rw [List.getElem?_set_self hv] at h
        have h := Option.some.inj h
        unfold keepD at h
        split at h
        · rename_i x e
          cases h
          exact .inr ⟨x, rfl, e⟩
        · cases h
      · rw [List.getElem?_eq_none (by simpa using hv)] at h; cases h
    · rw [List.getElem?_set_ne hi] at h
      rcases restE_some h with ⟨h1, h2⟩ | h1
      · exact .inl ⟨by simp only [List.mem_cons, not_or]; exact ⟨fun e => hi e.symm, h1⟩, h2⟩
      · exact .inr h1
/-- the block's own names are forgotten -/
theorem Rel.wipe (R : Rel K B Fr H0 s σ H) (vs : List Nat) : Rel K B Fr H0 (s.wipe vs) (L2.wipe σ vs) H where
  e0 := R.e0
  ef := R.ef
  dj := R.dj
  box := R.box
  bb := R.bb
  len := (wipeE_len _ _).trans (R.len.trans (wipe_length σ vs).symm)
  sl := fun i w hi => by
    obtain ⟨h1, h2⟩ := wipeE_some (show (wipeE s.e vs)[i]? = _ from hi)
    rw [wipe_get h2]
    exact R.sl i w h1
  ne := fun i j xs ys p n hi hj => by
    obtain ⟨h1, h2⟩ := wipeE_some (show (wipeE s.e vs)[i]? = _ from hi)
    obtain ⟨h3, h4⟩ := wipeE_some (show (wipeE s.e vs)[j]? = _ from hj)
    rw [wipe_get h2, wipe_get h4]
    exact R.ne i j xs ys p n h1 h3
theorem Rel.rest {s1 : SS} {H1 : Hp} {vs : List Nat} (R1 : Rel K B Fr H0 s1 σ H1) (e : Ex H0 H0') (R : Rel K B Fr H0' s (L2.wipe σ vs) H) : Rel K B Fr H0' ⟨restE s1.e s.e vs, s.b⟩ σ H where
  e0 := R.e0
  ef := R.ef
  dj := R.dj
  box := R.box
  bb := R.bb
  len := (restE_len _ _ _).trans (R.len.trans (wipe_length σ vs))
  sl := fun i w hi => by
    rcases restE_some (show (restE s1.e s.e vs)[i]? = _ from hi) with ⟨h1, h2⟩ | ⟨x, rfl, h2⟩
    · have := R.sl i w h2
      rw [wipe_get h1] at this
      exact this
    · obtain ⟨v, hv, hd⟩ := R1.sl i _ h2
      exact ⟨v, hv, dp_ex e _ _ hd⟩
  ne := fun i j xs ys p n hi hj => by
    rcases restE_some (show (restE s1.e s.e vs)[i]? = _ from hi) with ⟨h1, h2⟩ | ⟨x, e, _⟩
    · rcases restE_some (show (restE s1.e s.e vs)[j]? = _ from hj) with ⟨h3, h4⟩ | ⟨x, e, _⟩
      · have := R.ne i j xs ys p n h2 h4
        rw [wipe_get h1, wipe_get h3] at this
        exact this
      · cases e
    · cases e
/-- one more thing is held by others; its content changes -/
theorem Rel.frame {p : Addr} {u : HO} (R : Rel K B Fr H0 s σ H) (h : H p = none) : Rel K B (upd Fr p u) H0 s σ (upd H p u) := by
  obtain ⟨h0, hf, hb, hs⟩ := R.none_of h
  have R' := R.new (o := u) h
  have up : ∀ q, q ≠ p → Fr q = none → upd Fr p u q = none := fun q n e => by rw [upd_ne n]; exact e
  refine { e0 := R'.e0, ef := ?_, dj := fun q w hq => ?_, box := fun q hq => ?_, len := R.len, bb := R.bb, sl := fun i w hi => ?_, ne := R.ne }
  · intro q w hq
    by_cases z : q = p
    · subst z
      rw [upd_same] at hq ⊢
      exact hq
    · rw [upd_ne z] at hq
      exact R'.ef q w hq
  · by_cases z : q = p
    · rw [z]; exact h0
    · rw [upd_ne z] at hq
      exact R.dj q w hq
  · obtain ⟨a, b, c⟩ := R'.box q hq
    exact ⟨a, up q (fun z => hb (by rw [hq, z])) b, c⟩
  · cases w with
    | own xs =>
      obtain ⟨q, vs, hu, h1, h2, h3, h4, h5⟩ := R'.sl i _ hi
      exact ⟨q, vs, hu, h1, up q (fun z => hs i xs hi (by rw [hu, z])) h2, h3, h4, h5⟩
    | d x => exact R'.sl i _ hi
    | bx => exact R'.sl i _ hi
theorem Rel.reframe {p : Addr} {u w : HO} (R : Rel K B (upd Fr p u) H0 s σ H) : Rel K B (upd Fr p w) H0 s σ (upd H p w) := by
  have h0 : H0 p = none := R.dj p u upd_same
  have no : ∀ q, upd Fr p u q = none → q ≠ p := fun q e z => by
    rw [z, upd_same] at e
    cases e
  have up : ∀ q, upd Fr p u q = none → upd Fr p w q = none := fun q e => by
    have n := no q e
    rw [upd_ne n] at e ⊢
    exact e
  refine { e0 := fun q x hq => ?_, ef := fun q x hq => ?_, dj := fun q x hq => ?_, box := fun q hq => ?_, len := R.len, bb := R.bb, sl := fun i x hi => ?_, ne := R.ne }
  · have n : q ≠ p := fun z => by rw [z, h0] at hq; cases hq
    rw [upd_ne n]
    exact R.e0 q x hq
  · by_cases z : q = p
    · subst z
      rw [upd_same] at hq ⊢
      exact hq
    · rw [upd_ne z] at hq ⊢
      exact R.ef q x (by rw [upd_ne z]; exact hq)
  · by_cases z : q = p
    · rw [z]; exact h0
    · rw [upd_ne z] at hq
      exact R.dj q x (by rw [upd_ne z]; exact hq)
  · obtain ⟨a, b, c⟩ := R.box q hq
    exact ⟨a, up q b, by rw [upd_ne (no q b)]; exact c⟩
  · cases x with
    | own xs =>
      obtain ⟨q, vs, hu, h1, h2, h3, h4, h5⟩ := R.sl i _ hi
      exact ⟨q, vs, hu, h1, up q h2, h3, by rw [upd_ne (no q h2)]; exact h4, h5⟩
    | d x => exact R.sl i _ hi
    | bx => exact R.sl i _ hi
theorem Rel.unframe {p : Addr} {u : HO} (R : Rel K B (upd Fr p u) H0 s σ H) (hf : Fr p = none) : Rel K B Fr H0 s σ H ∧ H0 p = none ∧ B ≠ some p ∧ H p = some u ∧ ∀ (i : Nat) ys, s.e[i]? = some (some (.own ys)) → σ[i]? ≠ some (some (.ref p)) := by
  have no : ∀ q, upd Fr p u q = none → q ≠ p ∧ Fr q = none := fun q e => by
    by_cases z : q = p
    · rw [z, upd_same] at e
      cases e
    · rw [upd_ne z] at e
      exact ⟨z, e⟩
  have up : ∀ q x, Fr q = some x → upd Fr p u q = some x := fun q x e => by
    rw [upd_ne (ne_of_none e hf)]
    exact e
  refine ⟨{ e0 := R.e0, ef := fun q x hq => R.ef q x (up q x hq), dj := fun q x hq => R.dj q x (up q x hq), box := fun q hq => ?_, len := R.len, bb := R.bb, sl := fun i x hi => ?_, ne := R.ne }, R.dj p u upd_same, fun z => ?_, R.ef p u upd_same, fun i ys hi z => ?_⟩
  · obtain ⟨a, b, c⟩ := R.box q hq
    exact ⟨a, (no q b).2, c⟩
  · cases x with
    | own xs =>
      obtain ⟨q, vs, hu, h1, h2, h3, h4, h5⟩ := R.sl i _ hi
      exact ⟨q, vs, hu, h1, (no q h2).2, h3, h4, h5⟩
    | d x => exact R.sl i _ hi
    | bx => exact R.sl i _ hi
  · exact (no p (R.box p z).2.1).1 rfl
  · obtain ⟨q, vs, hu, h1, h2, _⟩ := R.sl i _ hi
    rw [z] at hu
    cases hu
    exact (no p h2).1 rfl
theorem den_lc {wi : TI} {tg : TG} {fi : DIo} {fg : DG} {vs : List Nat} (hi : DenIo K vs wi fi) (hg : DenGw K vs tg fg) (ht : DenT K tt c) (hf : DenE K te f) : DenE K (tLc wi tg tt te vs) (dLc vs fi fg c f) := by
  intro B Fr H0 s σ H r s' R e Q k
  obtain ⟨⟨⟨xs, o⟩, s1⟩, e1, e⟩ := bind_some e
  obtain ⟨⟨out, sf⟩, e2, e⟩ := bind_some e
  have e : (if out.length < 100000 then some (RV.fresh out, (⟨restE s1.e sf.e vs, sf.b⟩ : SS)) else none) = some (r, s') := e
  have e2 : lcFold vs o xs fg c f xs (s1.wipe vs) = some (out, sf) := e2
  by_cases hl : out.length < 100000
  · rw [if_pos hl] at e
    obtain ⟨rfl, rfl⟩ := Prod.mk.inj (Option.some.inj e)
    refine hi B Fr H0 s σ H xs o s1 R e1 _ fun J H1 H01 G Y x1 R1 W hG => ?_
    intro Dl hD
    have hfr := (R1.none_of hD).2.1
    have chk : ∀ {ys : List PyData} {s2 : SS} {q : List PyData × SS}, lcFold vs o xs fg c f ys s2 = some q → Chk o xs s2 := fun {ys s2 q} h => by
      cases ys with
      | nil =>
        unfold lcFold at h
        split at h
        · assumption
        · cases h
      | cons y ys =>
        unfold lcFold at h
        split at h
        · assumption
        · cases h
    refine lc_it W (fun i Ha => ∃ H02 s2 acc ds rest, Ex H01 H02 ∧ Rel K B (upd Fr Dl (.lst acc)) H02 s2 (L2.wipe σ vs) Ha ∧ DpAll K H02 acc ds ∧ lcFold vs o xs fg c f (xs.drop i) s2 = some (rest, sf) ∧ ds ++ rest = out)
      ⟨H01, s1.wipe vs, [], [], out, Ex.refl _, (R1.wipe vs).frame hD, .nil, e2, rfl⟩ (fun i Ha _ hP => ?_) (fun i x Ha Hb hn hP y => ?_) fun Ha hP => ?_
    · obtain ⟨H02, s2, acc, ds, rest, x2, R2, da, ef, _⟩ := hP
      exact (hG _ Ha H02 s2 x2 R2 (chk ef)).1
    · obtain ⟨H02, s2, acc, ds, rest, x2, R2, da, ef, eo⟩ := hP
      have ck := chk ef
      obtain ⟨rfl, d, hd, dd⟩ := (hG _ Ha H02 s2 x2 R2 ck).2 i x Hb y
      have ed : xs.drop i = d :: xs.drop (i + 1) := by
        obtain ⟨hl, e9⟩ := List.getElem?_eq_some_iff.mp hd
        rw [← e9]
        exact List.drop_eq_getElem_cons hl
      rw [ed] at ef
      unfold lcFold at ef
      rw [if_pos ck] at ef
      obtain ⟨s3, e3, ef⟩ := bind_some ef
      obtain ⟨⟨b4, s4⟩, e4, ef⟩ := bind_some ef
      refine hg B _ H02 s2 _ Hb d x s3 R2 dd e3 _ fun σ3 H3 H03 x3 R3 ew => ⟨ew.trans ?_, ?_⟩
      · have : ∀ ws : List Nat, (∀ w ∈ ws, w ∈ vs) → L2.wipe (L2.wipe σ vs) ws = L2.wipe σ vs := by
          intro ws
          induction ws with
          | nil => intro _; rfl
          | cons w ws ih =>
            intro hm
            show (L2.wipe (L2.wipe σ vs) ws).set w none = _
            rw [ih fun u hu => hm u (List.mem_cons_of_mem _ hu)]
            have hw := hm w (List.mem_cons_self ..)
            clear ih hm
            have : ∀ us : List Nat, w ∈ us → (L2.wipe σ us).set w none = L2.wipe σ us := by
              intro us
              induction us with
              | nil => intro h; cases h
              | cons u us ih =>
                intro h
                show ((L2.wipe σ us).set u none).set w none = (L2.wipe σ us).set u none
                by_cases z : u = w
                · rw [z, List.set_set]
                · rw [List.set_comm _ _ z, ih (by
                    rcases List.mem_cons.mp h with q | q
                    · exact absurd q.symm z
                    · exact q)]
            exact this vs hw
        exact this vs fun _ h => h
      have ew' : L2.wipe σ3 vs = L2.wipe σ vs := by
        refine ew.trans ?_
        have : ∀ ws : List Nat, (∀ w ∈ ws, w ∈ vs) → L2.wipe (L2.wipe σ vs) ws = L2.wipe σ vs := by
          intro ws
          induction ws with
          | nil => intro _; rfl
          | cons w ws ih =>
            intro hm
            show (L2.wipe (L2.wipe σ vs) ws).set w none = _
            rw [ih fun u hu => hm u (List.mem_cons_of_mem _ hu)]
            have hw := hm w (List.mem_cons_self ..)
            clear ih hm
            have : ∀ us : List Nat, w ∈ us → (L2.wipe σ us).set w none = L2.wipe σ us := by
              intro us
              induction us with
              | nil => intro h; cases h
              | cons u us ih =>
                intro h
                show ((L2.wipe σ us).set u none).set w none = (L2.wipe σ us).set u none
                by_cases z : u = w
                · rw [z, List.set_set]
                · rw [List.set_comm _ _ z, ih (by
                    rcases List.mem_cons.mp h with q | q
                    · exact absurd q.symm z
                    · exact q)]
            exact this vs hw
        exact this vs fun _ h => h
      refine ht B _ H03 s3 σ3 H3 b4 s4 R3 e4 _ fun H4 H04 x4 R4 => ?_
      cases b4 with
      | false =>
        have R5 := R4.wipe vs
        rw [ew'] at R5
        exact ite_ff ⟨H04, s4.wipe vs, acc, ds, rest, (x2.trans x3).trans x4, R5, dpa_ex (x3.trans x4) _ _ da, ef, eo⟩
      | true =>
        obtain ⟨⟨r5, s5⟩, e5, ef⟩ := bind_some (show ((f s4).bind fun q => _) = _ from ef)
        obtain ⟨⟨d6, s6⟩, e6, ef⟩ := bind_some ef
        obtain ⟨⟨rest2, sf2⟩, e7, e8⟩ := map_some ef
        obtain ⟨rfl, rfl⟩ := Prod.mk.inj e8
        refine ite_tt (hf B _ H04 s4 σ3 H4 r5 s5 R4 e5 _ fun y5 H5 H05 x5 R5 q5 => ?_)
        obtain ⟨H06, x6, R6, q6⟩ := q5.hold R5
        obtain ⟨H07, x7, R7, q7⟩ := q6.take R6 e6
        have xx := ((x3.trans x4).trans x5).trans (x6.trans x7)
        refine ⟨acc, R7.ef Dl _ upd_same, ?_, H07, s6.wipe vs, acc ++ [y5], ds ++ [d6], rest2, x2.trans xx, ?_, dpa_app (dpa_ex xx _ _ da) (.cons q7 .nil), e7, ?_⟩
        · have h9 := dpa_len da
          rw [← eo, List.length_append] at hl
          exact sz_lt (by omega)
        · have R8 := (R7.wipe vs).reframe (w := .lst (acc ++ [y5]))
          rw [ew'] at R8
          exact R8
        · rw [← eo, List.append_assoc]
          rfl
    · obtain ⟨H02, s2, acc, ds, rest, x2, R2, da, ef, eo⟩ := hP
      rw [List.drop_length] at ef
      unfold lcFold at ef
      rw [if_pos (by
        split at ef
        · assumption
        · cases ef)] at ef
      obtain ⟨rfl, rfl⟩ := Prod.mk.inj (Option.some.inj ef)
      rw [List.append_nil] at eo
      subst eo
      obtain ⟨R3, h0, hb, hh, hs⟩ := R2.unframe hfr
      have R4 := R1.rest x2 R3
      refine k (.ref Dl) Ha H02 (x1.trans x2) R4 ⟨Dl, acc, rfl, h0, hfr, hb, hh, da, fun i ys hi z => ?_⟩
      rcases restE_some (show (restE s1.e s2.e vs)[i]? = _ from hi) with ⟨h1, h2⟩ | ⟨x, e, _⟩
      · exact hs i ys h2 (by rw [wipe_get h1]; exact z)
      · cases e
  · rw [if_neg hl] at e
    cases e
end
end XN

set_option maxRecDepth 100000
set_option maxHeartbeats 4000000
/-! what a comprehension walks; a slot's list changed; the box; defs -/
namespace XN
open PySem PySem.Spec PyProof.Rows L2 Evl

/-- xs.append(e) at slot i -/
def dApp (i : Nat) (f : DF) : DS := fun s => (s.at i).bind fun _ => (f s).bind fun p => (p.1.hold.take p.2).bind fun q => (q.2.at i).bind fun xs => if xs.length < 100000 then some (.nx, ⟨q.2.e.set i (some (.own (xs ++ [q.1]))), q.2.b⟩) else none
/-- xs.pop(e) at slot i -/
def dPop (i : Nat) (f : DF) : DF := fun s => (s.at i).bind fun _ => (f s).bind fun p => match p.1 with
  | .d (.int n) => (p.2.at i).bind fun xs => if 0 ≤ n ∧ n < 1000000000 then (xs[n.toNat]?).map fun x => (.d x, ⟨p.2.e.set i (some (.own (xs.eraseIdx n.toNat))), p.2.b⟩) else none
  | _ => none
/-- box[j] = e -/
def dBoxSet (i j : Nat) (f : DF) : DS := fun s => (f s).bind fun p => match p.1, p.2.e[i]? with
  | .d (.int n), some (some .bx) => if j < p.2.b.length then some (.nx, ⟨p.2.e, p.2.b.set j n⟩) else none
  | _, _ => none
section
variable {K : PySem.W.Frag} {B : Option Addr} {Fr H0 H0' H H' : Hp} {s s' : SS} {σ : L2.St} {v : V} {r : RV} {ta tb te : TE} {tt tu : TT} {tas : TA} {f g : DF} {c c' : DT} {fa : DA} {ts us : TS} {fs gs : DS} {D : Ends} {o : OutS}
theorem den_io {wi : TI} {fi : DI} (vs : List Nat) (h : DenI K wi fi) : DenIo K vs wi (dIo fi) := by
  intro B Fr H0 s σ H xs o s' R e Rw k
  obtain ⟨⟨ys, s1⟩, e1, e⟩ := map_some e
  obtain ⟨e2, rfl⟩ := Prod.mk.inj e
  obtain ⟨rfl, rfl⟩ := Prod.mk.inj e2
  refine h B Fr H0 s σ H ys s1 R e1 _ fun J H1 H01 G Y x1 R1 W hG hY => k J H1 H01 G Y x1 R1 W fun Fa Ha H0a sa xa Ra _ => ⟨hG Ha (xa.trans Ra.e0), fun i x Hb y => ?_⟩
  obtain ⟨a, d, hd, dd⟩ := hY i Ha x Hb (xa.trans Ra.e0) y
  exact ⟨a, d, hd, dp_ex xa _ _ dd⟩
theorem den_itv (vs : List Nat) (i : Nat) : DenIo K vs (iAny K (tVar i)) (dItV vs i) := by
  intro B Fr H0 s σ H xs o s' R e Rw k
  unfold dItV at e
  split at e
  · rename_i x hx
    obtain ⟨ys, e1, e⟩ := map_some e
    obtain ⟨e2, rfl⟩ := Prod.mk.inj e
    obtain ⟨rfl, rfl⟩ := Prod.mk.inj e2
    refine den_items (f := dV i) (den_v i) B Fr H0 s σ H ys s R ?_ _ fun J H1 H01 G Y x1 R1 W hG hY => k J H1 H01 G Y x1 R1 W fun Fa Ha H0a sa xa Ra _ => ⟨hG Ha (xa.trans Ra.e0), fun i x Hb y => ?_⟩
    · unfold dItems dV
      rw [hx]
      show ((items x).map fun xs => (xs, s)) = _
      rw [e1]
      rfl
    · obtain ⟨a, d, hd, dd⟩ := hY i Ha x Hb (xa.trans Ra.e0) y
      exact ⟨a, d, hd, dp_ex xa _ _ dd⟩
  · rename_i ys hx
    by_cases hi : i ∈ vs
    · rw [if_pos hi] at e
      cases e
    · rw [if_neg hi] at e
      obtain ⟨e2, rfl⟩ := Prod.mk.inj (Option.some.inj e)
      obtain ⟨rfl, rfl⟩ := Prod.mk.inj e2
      obtain ⟨p, ws, hp, _, _, _, hh, hd⟩ := R.sl i _ hx
      refine ⟨_, hp, .inl ⟨p, rfl, ⟨ws, sq_of hh⟩, k (Itl K p) H H0 (fun Ha => ∃ us, Ha p = some (.lst us) ∧ us.length = ys.length) (fun j Ha x Hb => Hb = Ha ∧ ∀ us, SqL K Ha p us → us[j]? = some x) (Ex.refl _) R ?_ ?_⟩⟩
      · exact ⟨fun j Ha hj q => by
          obtain ⟨us, h1, h2⟩ := q
          exact ⟨us, us[j]'(by omega), sq_of h1, by simp [show j < us.length by omega]⟩, fun Ha q => by
          obtain ⟨us, h1, h2⟩ := q
          exact ⟨us, sq_of h1, by omega⟩, fun _ _ _ _ _ _ y => y⟩
      · intro Fa Ha H0a sa xa Ra ck
        obtain ⟨q, us, hq, _, _, _, hha, hda⟩ := Ra.sl i _ (at_of (ck i rfl))
        rw [wipe_get hi, hp] at hq
        cases hq
        refine ⟨⟨us, hha, dpa_len hda⟩, fun j x Hb y => ⟨y.1, ?_⟩⟩
        have hx := y.2 us (sq_of hha)
        have hj : j < ys.length := by
          rw [← dpa_len hda]
          exact (List.getElem?_eq_some_iff.mp hx).1
        obtain ⟨w, hw, dw⟩ := dpa_get hda (List.getElem?_eq_getElem hj)
        rw [hx] at hw
        cases hw
        exact ⟨_, List.getElem?_eq_getElem hj, dw⟩
  · cases e
theorem den_nameW {vs : List Nat} {i : Nat} (hi : i ∈ vs) : DenGw K vs (gName i) (dName i) := by
  intro B Fr H0 s σ H x v s' R d e Q k
  unfold dName at e
  by_cases il : i < s.e.length
  · rw [if_pos il] at e
    obtain rfl := Option.some.inj e
    exact k _ H H0 (Ex.refl _) (R.putW (by rw [← R.len]; exact il) ⟨v, rfl, d⟩ fun _ z => nomatch z) (wipe_set hi)
  · rw [if_neg il] at e
    cases e
theorem den_yes : DenT K tYes dYes := by
  intro B Fr H0 s σ H b s' R e Q k
  obtain ⟨rfl, rfl⟩ := Prod.mk.inj (Option.some.inj e)
  exact k H H0 (Ex.refl _) R
/-- slot i's list takes another content -/
theorem Rel.store {i : Nat} {xs ys : List PyData} {p : Addr} {us : List V} (R : Rel K B Fr H0 s σ H) (hi : s.e[i]? = some (some (.own xs))) (hp : σ[i]? = some (some (.ref p))) (d : DpAll K H0 us ys) : Rel K B Fr H0 ⟨s.e.set i (some (.own ys)), s.b⟩ σ (upd H p (.lst us)) := by
  obtain ⟨q, vs, hu, h1, h2, h3, h4, h5⟩ := R.sl i _ hi
  rw [hp] at hu
  cases hu
  have il : i < s.e.length := (List.getElem?_eq_some_iff.mp hi).1
  have get : ∀ (j : Nat) (w : SV), (s.e.set i (some (.own ys)))[j]? = some (some w) → (j = i ∧ w = .own ys) ∨ (j ≠ i ∧ s.e[j]? = some (some w)) := by
    intro j w hj
    by_cases z : i = j
    · subst z
      rw [List.getElem?_set_self il] at hj
      cases hj
      exact .inl ⟨rfl, rfl⟩
    · rw [List.getElem?_set_ne z] at hj
      exact .inr ⟨fun e => z e.symm, hj⟩
  refine { e0 := R.e0.mut h1, ef := R.ef.mut h2, dj := R.dj, box := fun q hq => ?_, len := (List.length_set ..).trans R.len, bb := R.bb, sl := fun j w hj => ?_, ne := fun j k as bs q n gj gk pj pk => ?_ }
  · obtain ⟨a, b, c⟩ := R.box q hq
    exact ⟨a, b, by rw [upd_ne (fun z => h3 (by rw [hq, z]))]; exact c⟩
  · rcases get j w hj with ⟨rfl, rfl⟩ | ⟨n, hj⟩
    · exact ⟨p, us, hp, h1, h2, h3, upd_same, d⟩
    · cases w with
      | own as =>
        obtain ⟨q, ws, hu, k1, k2, k3, k4, k5⟩ := R.sl j _ hj
        exact ⟨q, ws, hu, k1, k2, k3, by rw [upd_ne (fun z => R.ne j i as xs q n hj hi hu (by rw [hp, z]))]; exact k4, k5⟩
      | d x => exact R.sl j _ hj
      | bx => exact R.sl j _ hj
  · rcases get j _ gj with ⟨z, _⟩ | ⟨n1, hj⟩
    · rcases get k _ gk with ⟨z2, _⟩ | ⟨n2, hk⟩
      · exact n (z.trans z2.symm)
      · rw [z] at pj
        exact R.ne i k xs bs q n2.symm hi hk pj pk
    · rcases get k _ gk with ⟨z2, _⟩ | ⟨n2, hk⟩
      · rw [z2] at pk
        exact R.ne j i as xs q n1 hj hi pj pk
      · exact R.ne j k as bs q n hj hk pj pk
theorem den_app {i : Nat} (h : DenE K te f) : DenS K (tDrop (tBM K "list" rAppend (tVar i) (tCons te tNil))) (dApp i f) := by
  intro B Fr H0 s σ H o s' R e D k
  obtain ⟨ys, e0, e⟩ := bind_some e
  obtain ⟨⟨r1, s1⟩, e1, e⟩ := bind_some e
  obtain ⟨⟨x, s2⟩, e2, e⟩ := bind_some e
  obtain ⟨xs, e3, e⟩ := bind_some e
  have e : (if xs.length < 100000 then some (OutS.nx, (⟨s2.e.set i (some (.own (xs ++ [x]))), s2.b⟩ : SS)) else none) = some (o, s') := e
  by_cases hl : xs.length < 100000
  · rw [if_pos hl] at e
    obtain ⟨rfl, rfl⟩ := Prod.mk.inj (Option.some.inj e)
    obtain ⟨p, ws, hp, _, _, _, hh, _⟩ := R.sl i _ (at_of e0)
    refine ⟨.ref p, hp, .inl ⟨rfl, ws, sq_of hh⟩, h B Fr H0 s σ H r1 s1 R e1 _ fun v1 H1 H01 x1 R1 q1 => ?_⟩
    obtain ⟨H02, x2, R2, q2⟩ := q1.hold R1
    obtain ⟨H03, x3, R3, d3⟩ := q2.take R2 e2
    obtain ⟨q, us, hq, _, _, _, hhq, da⟩ := R3.sl i _ (at_of e3)
    rw [hp] at hq
    cases hq
    refine ⟨p, us, v1, rfl, rfl, hhq, sz_lt (by rw [dpa_len da]; exact hl), ?_⟩
    exact k σ _ H03 ((x1.trans x2).trans x3) (R3.store (at_of e3) hp (dpa_app da (.cons d3 .nil)))
  · rw [if_neg hl] at e
    cases e
theorem vget {α : Type} {xs : List α} {n : Nat} (h : n < xs.length) : xs.eraseIdx n = xs.take n ++ xs.drop (n + 1) := List.eraseIdx_eq_take_drop_succ xs n
theorem den_pop {i : Nat} (h : DenE K te f) : DenE K (tBM K "list" rPopAt (tVar i) (tCons te tNil)) (dPop i f) := by
  intro B Fr H0 s σ H r s' R e Q k
  obtain ⟨ys, e0, e⟩ := bind_some e
  obtain ⟨⟨r1, s1⟩, e1, e⟩ := bind_some e
  dsimp only at e
  split at e
  · rename_i n
    obtain ⟨xs, e3, e⟩ := bind_some e
    by_cases hn : 0 ≤ n ∧ n < 1000000000
    · rw [if_pos hn] at e
      obtain ⟨x, e4, e5⟩ := map_some e
      obtain ⟨rfl, rfl⟩ := Prod.mk.inj e5
      obtain ⟨p, ws, hp, _, _, _, hh, _⟩ := R.sl i _ (at_of e0)
      refine ⟨.ref p, hp, .inl ⟨rfl, ws, sq_of hh⟩, h B Fr H0 s σ H _ s1 R e1 _ fun v1 H1 H01 x1 R1 q1 => ?_⟩
      cases q1
      obtain ⟨q, us, hq, _, _, _, hhq, da⟩ := R1.sl i _ (at_of e3)
      rw [hp] at hq
      cases hq
      obtain ⟨y, hy, dy⟩ := dpa_get da e4
      have il : n.toNat < us.length := (List.getElem?_eq_some_iff.mp hy).1
      have ix : seqIndex? n us.length = some n.toNat := by
        unfold seqIndex?
        rw [if_neg (by omega : ¬ n < 0)]
        dsimp only
        rw [if_pos (by rw [Bool.and_eq_true]; exact ⟨decide_eq_true hn.1, decide_eq_true (by omega)⟩)]
      refine ⟨p, us, n, n.toNat, y, rfl, rfl, hhq, by omega, by omega, ix, hy, ?_⟩
      refine k y _ H01 x1 (R1.store (at_of e3) hp ?_) dy
      rw [vget il, vget (List.getElem?_eq_some_iff.mp e4).1]
      exact dpa_app (dpa_take _ da) (dpa_drop _ da)
    · rw [if_neg hn] at e
      cases e
  · cases e
theorem set_ne_nil {l : List Int} {j : Nat} {n : Int} (h : j < l.length) (z : l.set j n = []) : False := by
  have := congrArg List.length z
  rw [List.length_set, List.length_nil] at this
  omega
theorem den_boxSet {i j : Nat} {ti : TE} (hi : DenE K ti (dC (.int j))) (h : DenE K te f) : DenS K (tAsg te (gSub (tVar i) ti rSetL)) (dBoxSet i j f) := by
  intro B Fr H0 s σ H o s' R e D k
  obtain ⟨⟨r1, s1⟩, e1, e⟩ := bind_some e
  dsimp only at e
  split at e
  · rename_i n hb
    by_cases hj : j < s1.b.length
    · rw [if_pos hj] at e
      obtain ⟨rfl, rfl⟩ := Prod.mk.inj (Option.some.inj e)
      refine h B Fr H0 s σ H _ s1 R e1 _ fun v1 H1 H01 x1 R1 q1 => ?_
      cases q1
      obtain ⟨p, hB, hp⟩ := R1.sl i _ hb
      refine ⟨.ref p, hp, hi B Fr H01 s1 σ H1 _ s1 R1 rfl _ fun v2 H2 H02 x2 R2 q2 => ?_⟩
      cases q2
      obtain ⟨b0, bf, bh⟩ := R2.box p hB
      refine ⟨p, s1.b.map V.int, j, j, rfl, rfl, bh, ixN_nat (by rw [List.length_map]; exact hj), ?_⟩
      rw [← List.map_set]
      refine k σ _ H02 (x1.trans x2) { e0 := R2.e0.mut b0, ef := R2.ef.mut bf, dj := R2.dj, box := fun q hq => ?_, len := R2.len, bb := fun z => (set_ne_nil hj z).elim, sl := fun l w hl => ?_, ne := R2.ne }
      · obtain rfl := Option.some.inj (hB.symm.trans hq)
        exact ⟨b0, bf, upd_same⟩
      · cases w with
        | own as =>
          obtain ⟨q, ws, hu, k1, k2, k3, k4, k5⟩ := R2.sl l _ hl
          exact ⟨q, ws, hu, k1, k2, k3, by rw [upd_ne (fun z => k3 (by rw [hB, z]))]; exact k4, k5⟩
        | d x => exact R2.sl l _ hl
        | bx => exact R2.sl l _ hl
    · rw [if_neg hj] at e
      cases e
  · cases e
end
end XN

set_option maxRecDepth 100000
set_option maxHeartbeats 4000000
/-! defs on data, their calls -/
namespace XN
open PySem PySem.Spec PyProof.Rows L2 Evl

abbrev DFun := List SV → List Int → Option (SV × List Int)
def isArg : SV → Bool
  | .own _ => false
  | _ => true
def spD (K : PySem.W.Frag) (n : Nat) (F : DFun) : Sp := fun vs H Q _ => ∃ (B : Option Addr) (Fr H0 : Hp) (as : List SV) (b : List Int) (r : SV) (b' : List Int),
  Rel K B Fr H0 ⟨as.map some, b⟩ (vs.map some) H ∧ vs.length = n ∧ F as b = some (r, b') ∧ ∀ v H' H0', Ex H0 H0' → Rel K B Fr H0' ⟨[some r], b'⟩ [some v] H' → Q v H'
def RV.ret (s : SS) : RV → Option SV
  | .d x => some (.d x)
  | .fresh xs => some (.own xs)
  | .sl i => (s.at i).map .own
  | .bx => some .bx
def SV.rv : SV → RV
  | .d x => .d x
  | .own xs => .fresh xs
  | .bx => .bx
/-- a def of m further names -/
def defOf (m : Nat) (g : DS) : DFun := fun as b => (g ⟨as.map some ++ List.replicate m none, b⟩).bind fun p => match p.1 with
  | .nx => some (.d .none, p.2.b)
  | .rt r => (r.ret p.2).map fun w => (w, p.2.b)
  | _ => none
def argAll : List RV → SS → Option (List SV × SS)
  | [], s => some ([], s)
  | .bx :: rs, s => (argAll rs s).map fun q => (.bx :: q.1, q.2)
  | r :: rs, s => (r.take s).bind fun p => (argAll rs p.2).map fun q => (.d p.1 :: q.1, q.2)
def dCall (F : DFun) (fa : DA) : DF := fun s => (fa s).bind fun p => (argAll p.1 p.2).bind fun q => (F q.1 q.2.b).map fun r => (r.1.rv, ⟨q.2.e, r.2⟩)
section
variable {K : PySem.W.Frag} {B : Option Addr} {Fr H0 H0' H H' : Hp} {s s' : SS} {σ : L2.St} {v : V} {r : RV} {ta tb te : TE} {tt tu : TT} {tas : TA} {f g : DF} {c c' : DT} {fa : DA} {ts us : TS} {fs gs : DS} {D : Ends} {o : OutS}
theorem Res.ret {w : SV} (R : Rel K B Fr H0 s σ H) (h : Res K B Fr H0 s σ H v r) (e : r.ret s = some w) : Rel K B Fr H0 ⟨[some w], s.b⟩ [some v] H := by
  have one : ∀ w, SlotIs K B Fr H0 H (some (some v)) w → Rel K B Fr H0 ⟨[some w], s.b⟩ [some v] H := fun w hw =>
    { e0 := R.e0, ef := R.ef, dj := R.dj, box := R.box, len := rfl, bb := R.bb,
      sl := fun i u hi => by
        cases i with
        | zero =>
          cases hi
          exact hw
        | succ i => cases hi
      ne := fun i j xs ys p n hi hj => by
        cases i with
        | zero =>
          cases j with
          | zero => exact absurd rfl n
          | succ j => cases hj
        | succ i => cases hi }
  cases r with
  | d x =>
    obtain rfl := Option.some.inj e
    exact one _ ⟨v, rfl, h⟩
  | fresh xs =>
    obtain rfl := Option.some.inj e
    obtain ⟨p, vs, rfl, h1, h2, h3, h4, h5, _⟩ := h
    exact one _ ⟨p, vs, rfl, h1, h2, h3, h4, h5⟩
  | sl i =>
    obtain ⟨xs, he, rfl⟩ := map_some e
    have := R.sl i _ (at_of he)
    rw [h.1] at this
    exact one _ this
  | bx =>
    obtain rfl := Option.some.inj e
    obtain ⟨p, hp, rfl⟩ := h
    exact one _ ⟨p, hp, rfl⟩
theorem getElem?_app_none {α : Type} {as : List α} {m i : Nat} {w : α} (h : (as.map some ++ List.replicate m none)[i]? = some (some w)) : as[i]? = some w := by
  by_cases hi : i < as.length
  · rw [List.getElem?_append_left (by rw [List.length_map]; exact hi), List.getElem?_map] at h
    obtain ⟨a, ha, e⟩ := Option.map_eq_some_iff.mp h
    rw [ha, Option.some.inj e]
  · rw [List.getElem?_append_right (by rw [List.length_map]; omega), List.getElem?_replicate] at h
    split at h
    · cases Option.some.inj h
    · cases h
theorem Rel.start {as : List SV} {b : List Int} {vs : List V} (R : Rel K B Fr H0 ⟨as.map some, b⟩ (vs.map some) H) (m : Nat) : Rel K B Fr H0 ⟨as.map some ++ List.replicate m none, b⟩ (vs.map some ++ List.replicate m none) H where
  e0 := R.e0
  ef := R.ef
  dj := R.dj
  box := R.box
  bb := R.bb
  len := by
    have := R.len
    show (as.map some ++ List.replicate m none).length = _
    rw [List.length_append, List.length_append, List.length_replicate, List.length_replicate]
    exact congrArg (· + m) this
  sl := fun i w hi => by
    have h1 := getElem?_app_none (show (as.map some ++ List.replicate m none)[i]? = _ from hi)
    have h2 : (as.map some)[i]? = some (some w) := by rw [List.getElem?_map, h1]; rfl
    have h3 : i < (vs.map some).length := by
      have := R.len
      rw [← this]
      exact (List.getElem?_eq_some_iff.mp h2).1
    rw [List.getElem?_append_left h3]
    exact R.sl i w h2
  ne := fun i j xs ys p n hi hj pi pj => by
    have h1 := getElem?_app_none (show (as.map some ++ List.replicate m none)[i]? = _ from hi)
    have h2 : (as.map some)[i]? = some (some (.own xs)) := by rw [List.getElem?_map, h1]; rfl
    have h3 : i < (vs.map some).length := by
      have := R.len
      rw [← this]
      exact (List.getElem?_eq_some_iff.mp h2).1
    have k1 := getElem?_app_none (show (as.map some ++ List.replicate m none)[j]? = _ from hj)
    have k2 : (as.map some)[j]? = some (some (.own ys)) := by rw [List.getElem?_map, k1]; rfl
    have k3 : j < (vs.map some).length := by
      have := R.len
      rw [← this]
      exact (List.getElem?_eq_some_iff.mp k2).1
    rw [List.getElem?_append_left h3] at pi
    rw [List.getElem?_append_left k3] at pj
    exact R.ne i j xs ys p n h2 k2 pi pj
theorem den_def {n m : Nat} {vs : List V} {Q : VK} {E : XK} (hb : DenS K ts fs) (h : spD K n (defOf m fs) vs H Q E) : ts { nx := fun _ H' => Q .non H', rt := Q } (vs.map some ++ List.replicate m none) H := by
  obtain ⟨B, Fr, H0, as, b, r, b', R, hn, e, q⟩ := h
  obtain ⟨⟨o, s1⟩, e1, e⟩ := bind_some e
  refine hb B Fr H0 _ _ H o s1 (R.start m) e1 _ ?_
  cases o with
  | nx =>
    obtain ⟨rfl, rfl⟩ := Prod.mk.inj (Option.some.inj e)
    intro σ' H' H1 x R1
    refine q _ _ H1 x ?_
    exact Res.ret (r := .d .none) R1 Dp.non rfl
  | bk => cases e
  | ct => cases e
  | rt r1 =>
    obtain ⟨w, e2, e3⟩ := map_some (show (r1.ret s1).map _ = _ from e)
    obtain ⟨rfl, rfl⟩ := Prod.mk.inj e3
    exact fun v σ' H' H1 x R1 q1 => q v H' H1 x (Res.ret R1 q1 e2)
/-- what a def is handed -/
inductive ArgIs (K : PySem.W.Frag) (B : Option Addr) (H0 : Hp) : List V → List SV → Prop
  | nil : ArgIs K B H0 [] []
  | d {v : V} {x : PyData} {vs : List V} {as : List SV} : Dp K H0 v x → ArgIs K B H0 vs as → ArgIs K B H0 (v :: vs) (.d x :: as)
  | bx {p : Addr} {vs : List V} {as : List SV} : B = some p → ArgIs K B H0 vs as → ArgIs K B H0 (.ref p :: vs) (.bx :: as)
theorem ArgIs.len : ∀ {vs : List V} {as : List SV}, ArgIs K B H0 vs as → as.length = vs.length
  | _, _, .nil => rfl
  | _, _, .d _ t => congrArg Nat.succ t.len
  | _, _, .bx _ t => congrArg Nat.succ t.len
theorem ArgIs.up (e : Ex H0 H0') : ∀ {vs : List V} {as : List SV}, ArgIs K B H0 vs as → ArgIs K B H0' vs as
  | _, _, .nil => .nil
  | _, _, .d h t => .d (dp_ex e _ _ h) (ArgIs.up e t)
  | _, _, .bx h t => .bx h (ArgIs.up e t)
theorem ArgIs.get : ∀ {vs : List V} {as : List SV} {i : Nat} {w : SV}, ArgIs K B H0 vs as → (as.map some)[i]? = some (some w) → (∃ x v, w = .d x ∧ (vs.map some)[i]? = some (some v) ∧ Dp K H0 v x) ∨ ∃ p, w = .bx ∧ B = some p ∧ (vs.map some)[i]? = some (some (.ref p))
  | _, _, i, w, .nil, h => by simp at h
  | _, _, 0, w, .d (v := v) (x := x) h t, e => by
    cases e
    exact .inl ⟨x, v, rfl, rfl, h⟩
  | _, _, 0, w, .bx (p := p) h t, e => by
    cases e
    exact .inr ⟨p, rfl, h, rfl⟩
  | _, _, i + 1, w, .d _ t, e => ArgIs.get (i := i) t e
  | _, _, i + 1, w, .bx _ t, e => ArgIs.get (i := i) t e
theorem HeldAll.args : ∀ {vs : List V} {rs : List RV} {as : List SV} {s s' : SS} {H0 : Hp}, Rel K B Fr H0 s σ H → HeldAll K B H0 σ vs rs → argAll rs s = some (as, s') → ∃ H0', Ex H0 H0' ∧ Rel K B Fr H0' s' σ H ∧ ArgIs K B H0' vs as
  | _, _, _, _, _, _, R, .nil, e => by
    obtain ⟨rfl, rfl⟩ := Prod.mk.inj (Option.some.inj e)
    exact ⟨_, Ex.refl _, R, .nil⟩
  | _, _, _, _, _, _, R, .cons (r := .bx) h t, e => by
    obtain ⟨⟨as, s2⟩, e3, e4⟩ := map_some (show (argAll _ _).map _ = _ from e)
    obtain ⟨rfl, rfl⟩ := Prod.mk.inj e4
    obtain ⟨p, hp, rfl⟩ := h
    obtain ⟨H2, x2, R2, d2⟩ := HeldAll.args R t e3
    exact ⟨H2, x2, R2, .bx hp d2⟩
  | _, _, _, _, _, _, R, .cons (r := .d y) h t, e => by
    obtain ⟨⟨x, s1⟩, e1, e2⟩ := bind_some (show ((RV.d y).take _).bind _ = _ from e)
    obtain ⟨⟨as, s2⟩, e3, e4⟩ := map_some e2
    obtain ⟨rfl, rfl⟩ := Prod.mk.inj e4
    obtain ⟨H1, x1, R1, d1⟩ := h.take R e1
    obtain ⟨H2, x2, R2, d2⟩ := HeldAll.args R1 (t.up x1) e3
    exact ⟨H2, x1.trans x2, R2, .d (dp_ex x2 _ _ d1) d2⟩
  | _, _, _, _, _, _, R, .cons (r := .sl i) h t, e => by
    obtain ⟨⟨x, s1⟩, e1, e2⟩ := bind_some (show ((RV.sl i).take _).bind _ = _ from e)
    obtain ⟨⟨as, s2⟩, e3, e4⟩ := map_some e2
    obtain ⟨rfl, rfl⟩ := Prod.mk.inj e4
    obtain ⟨H1, x1, R1, d1⟩ := h.take R e1
    obtain ⟨H2, x2, R2, d2⟩ := HeldAll.args R1 (t.up x1) e3
    exact ⟨H2, x1.trans x2, R2, .d (dp_ex x2 _ _ d1) d2⟩
  | _, _, _, _, _, _, R, .cons (r := .fresh xs) h t, e => h.elim
open Classical in
/-- the caller's own lists are others' things for the called def -/
noncomputable def lend (Fr : Hp) (s : SS) (σ : L2.St) (H : Hp) : Hp := fun a => if ∃ (i : Nat) (xs : List PyData), s.e[i]? = some (some (.own xs)) ∧ σ[i]? = some (some (.ref a)) then H a else Fr a
theorem den_call {n : Nat} {F : DFun} {E : XK} (h : DenA K tas fa) (hn : ∀ s p, fa s = some p → p.1.length = n) : DenE K (tCall (spD K n F) [] E tas) (dCall F fa) := by
  intro B Fr H0 s σ H r s' R e Q k
  obtain ⟨⟨rs, s1⟩, e1, e⟩ := bind_some e
  obtain ⟨⟨as, s2⟩, e2, e⟩ := bind_some e
  obtain ⟨⟨w, b'⟩, e3, e4⟩ := map_some e
  obtain ⟨rfl, rfl⟩ := Prod.mk.inj e4
  refine h B Fr H0 s σ H rs s1 R e1 _ fun vs H1 H01 x1 R1 q1 => ?_
  obtain ⟨H02, x2, R2, q2⟩ := q1.args R1 e2
  have own : ∀ (i : Nat) (xs : List PyData) (p : Addr), s2.e[i]? = some (some (.own xs)) → σ[i]? = some (some (.ref p)) → lend Fr s2 σ H1 p = H1 p := fun i xs p hi hp => by
    unfold lend
    rw [if_pos ⟨i, xs, hi, hp⟩]
  have other : ∀ p, (∀ (i : Nat) (xs : List PyData), s2.e[i]? = some (some (.own xs)) → σ[i]? ≠ some (some (.ref p))) → lend Fr s2 σ H1 p = Fr p := fun p hp => by
    unfold lend
    rw [if_neg (fun ⟨i, xs, hi, q⟩ => hp i xs hi q)]
  have held : ∀ (i : Nat) (xs : List PyData) (p : Addr), s2.e[i]? = some (some (.own xs)) → σ[i]? = some (some (.ref p)) → ∃ ws, H02 p = none ∧ Fr p = none ∧ B ≠ some p ∧ H1 p = some (.lst ws) ∧ DpAll K H02 ws xs := fun i xs p hi hp => by
    obtain ⟨q, ws, hq, a, b, c, d, e⟩ := R2.sl i _ hi
    rw [hp] at hq
    cases hq
    exact ⟨ws, a, b, c, d, e⟩
  have frOf : ∀ p u, Fr p = some u → lend Fr s2 σ H1 p = some u := fun p u hu => by
    rw [other p fun i xs hi hp => ?_]
    · exact hu
    · obtain ⟨ws, _, b, _⟩ := held i xs p hi hp
      rw [b] at hu
      cases hu
  have frNo : ∀ p, lend Fr s2 σ H1 p = none → Fr p = none ∧ ∀ (i : Nat) (xs : List PyData), s2.e[i]? = some (some (.own xs)) → σ[i]? ≠ some (some (.ref p)) := fun p hp => by
    have hs : ∀ (i : Nat) (xs : List PyData), s2.e[i]? = some (some (.own xs)) → σ[i]? ≠ some (some (.ref p)) := fun i xs hi hq => by
      obtain ⟨ws, _, _, _, d, _⟩ := held i xs p hi hq
      rw [own i xs p hi hq, d] at hp
      cases hp
    rw [other p hs] at hp
    exact ⟨hp, hs⟩
  have lk : ∀ p u, lend Fr s2 σ H1 p = some u → (∃ (i : Nat) (xs : List PyData), s2.e[i]? = some (some (.own xs)) ∧ σ[i]? = some (some (.ref p))) ∨ Fr p = some u := fun p u hp => by
    by_cases z : ∃ (i : Nat) (xs : List PyData), s2.e[i]? = some (some (.own xs)) ∧ σ[i]? = some (some (.ref p))
    · exact .inl z
    · rw [other p fun i xs hi hq => z ⟨i, xs, hi, hq⟩] at hp
      exact .inr hp
  show spD K n F (vs ++ []) H1 Q E
  rw [List.append_nil]
  have hl : vs.length = n := by
    have h1 : rs.length = n := hn s (rs, s1) e1
    have : ∀ {vs : List V} {rs : List RV}, HeldAll K B H01 σ vs rs → vs.length = rs.length := by
      intro vs rs h
      induction h with
      | nil => rfl
      | cons _ _ ih => exact congrArg Nat.succ ih
    rw [this q1, h1]
  refine ⟨B, lend Fr s2 σ H1, H02, as, s2.b, w, b', ?_, hl, e3, fun v H' H0' x3 R3 => ?_⟩
  · refine { e0 := R2.e0, ef := fun p u hp => ?_, dj := fun p u hp => ?_, box := fun p hp => ?_, len := ?_, bb := R2.bb, sl := fun i u hi => ?_, ne := fun i j xs ys p hne hi hj => ?_ }
    · rcases lk p u hp with ⟨i, xs, hi, hq⟩ | hf
      · rw [own i xs p hi hq] at hp
        exact hp
      · exact R2.ef p u hf
    · rcases lk p u hp with ⟨i, xs, hi, hq⟩ | hf
      · obtain ⟨ws, a, _⟩ := held i xs p hi hq
        exact a
      · exact R2.dj p u hf
    · obtain ⟨a, b, c⟩ := R2.box p hp
      refine ⟨a, ?_, c⟩
      rw [other p fun i xs hi hq => ?_]
      · exact b
      · obtain ⟨ws, _, _, d, _⟩ := held i xs p hi hq
        exact d hp
    · show (as.map some).length = (vs.map some).length
      rw [List.length_map, List.length_map]
      exact q2.len
    · rcases q2.get hi with ⟨x, v, rfl, hv, hd⟩ | ⟨p, rfl, hp, hv⟩
      · exact ⟨v, hv, hd⟩
      · exact ⟨p, hp, hv⟩
    · rcases q2.get hi with ⟨x, v, z, _⟩ | ⟨p, z, _⟩ <;> cases z
  · have Rc : Rel K B Fr H0' ⟨s2.e, b'⟩ σ H' := by
      refine { e0 := R3.e0, ef := fun p u hp => R3.ef p u (frOf p u hp), dj := fun p u hp => R3.dj p u (frOf p u hp), box := fun p hp => ?_, len := R2.len, bb := R3.bb, sl := fun i u hi => ?_, ne := R2.ne }
      · obtain ⟨a, b, c⟩ := R3.box p hp
        exact ⟨a, (frNo p b).1, c⟩
      · cases u with
        | d x =>
          obtain ⟨v, hv, hd⟩ := R2.sl i _ hi
          exact ⟨v, hv, dp_ex x3 _ _ hd⟩
        | own xs =>
          obtain ⟨p, ws, hp, a, b, c, d, e⟩ := R2.sl i _ hi
          have hp2 : lend Fr s2 σ H1 p = some (.lst ws) := by
            rw [own i xs p hi hp]
            exact d
          exact ⟨p, ws, hp, R3.dj p _ hp2, b, c, R3.ef p _ hp2, dpa_ex x3 _ _ e⟩
        | bx => exact R2.sl i _ hi
    refine k v H' H0' ((x1.trans x2).trans x3) Rc ?_
    cases w with
    | d x =>
      obtain ⟨u, hu, hd⟩ := R3.sl 0 _ rfl
      cases hu
      exact hd
    | own xs =>
      obtain ⟨p, ws, hu, a, b, c, d, e⟩ := R3.sl 0 _ rfl
      cases hu
      exact ⟨p, ws, rfl, a, (frNo p b).1, c, d, e, fun i ys hi => (frNo p b).2 i ys hi⟩
    | bx =>
      obtain ⟨p, hp, hu⟩ := R3.sl 0 _ rfl
      cases hu
      exact ⟨p, hp, rfl⟩
end
end XN

set_option maxRecDepth 100000
set_option maxHeartbeats 4000000
/-! operators on data -/
namespace XN
open PySem PySem.Spec PyProof.Rows L2 Evl

/-- list + list, whatever stands in the lists' slots -/
theorem list_add_any (l b : Addr) (xs ys : Array Value) (n m : Nat) (sl tl : Array (Option Value)) (hc : xs.size + ys.size ≤ sizeLine) :
    Meets (Builtin.«list.__add__» ⟨[.ref l, .ref b], []⟩) (fun _ R s => s.heap.get? l = some ⟨.type "list", .none, .seq xs n, sl⟩ ∧ s.heap.get? b = some ⟨.type "list", .none, .seq ys m, tl⟩ ∧
      R (.ok (.ret (.ref s.heap.objs.size))) { s with heap := s.heap.push { cls := .type "list", data := .seq (xs ++ ys) } }) :=
  .of_wp fun prog w A R s h => by
    obtain ⟨hp, g, d, tk, os⟩ := s
    obtain ⟨hl, hb, h⟩ := h
    have hc0 := hc
    have same := sub_list_list
    wp_walk using wpAny_loadPart' hl, wpAny_loadPart' hb
    exact ⟨_, rfl, h⟩
theorem add_lists {prog : Program} {w : World} {A : Around} {E : Value → Shared → Prop} {s : Shared} {l b : Addr} {xs ys : Array Value} {Q : Value → Shared → Prop} (hl : PlainL s.heap l xs) (hb : PlainL s.heap b ys) (hc : xs.size + ys.size ≤ sizeLine)
    (h : Q (.ref s.heap.objs.size) { s with heap := s.heap.push { cls := .type "list", data := .seq (xs ++ ys) } }) : wpAny (model prog w) A (binaryOp .Add (.ref l) (.ref b)) Q E s := by
  obtain ⟨⟨c1, d1, a1, s1⟩, n1, h1, e1, f1, g1⟩ := hl
  obtain ⟨⟨c2, d2, a2, s2⟩, n2, h2, e2, f2, g2⟩ := hb
  simp only at e1 f1 g1 e2 f2 g2
  subst e1 f1 g1 e2 f2 g2
  exact concat_meets ⟨_, h1, rfl⟩ ⟨_, h2, rfl⟩ noFill_list_add seq_list_add F.slot_list_add F.entry_list_add (F.args_list_add_2 _ _) (list_add_any l b xs ys n1 n2 s1 s2 hc) ⟨h1, h2, h⟩

def rOf1 (K : PySem.W.Frag) (op : PyData → Option PV) : V → Hp → VK → Prop := fun x H Q => ∃ (H0 : Hp) (dx : PyData) (z : PV), Ex H0 H ∧ Dq K H0 H x dx ∧ op dx = some z ∧ Out K H0 H Q z
def rOf2 (K : PySem.W.Frag) (op : PyData → PyData → Option PV) : R2 := fun x y H Q => ∃ (H0 : Hp) (dx dy : PyData) (z : PV), Ex H0 H ∧ Dq K H0 H x dx ∧ Dq K H0 H y dy ∧ op dx dy = some z ∧ Out K H0 H Q z
def rOfB (K : PySem.W.Frag) (op : List PyData → Option PV) : List V → Hp → VK → Prop := fun vs H Q => ∃ (H0 : Hp) (ds : List PyData) (z : PV), Ex H0 H ∧ DqAll K H0 H vs ds ∧ op ds = some z ∧ Out K H0 H Q z
theorem den1_of {K : PySem.W.Frag} {op : PyData → Option PV} : Den1 K (rOf1 K op) op := fun H0 H x dx z Q e hx h o => ⟨H0, dx, z, e, hx, h, o⟩
theorem den2_of {K : PySem.W.Frag} {op : PyData → PyData → Option PV} : Den2 K (rOf2 K op) op := fun H0 H x y dx dy z Q e hx hy h o => ⟨H0, dx, dy, z, e, hx, hy, h, o⟩
theorem denB_of {K : PySem.W.Frag} {op : List PyData → Option PV} : DenB K (rOfB K op) op := fun H0 H vs ds z Q e h1 h o => ⟨H0, ds, z, e, h1, h, o⟩

def opAdd : PyData → PyData → Option PV
  | .int a, .int b => some (.d (.int (a + b)))
  | .str a, .str b => if a.length + b.length ≤ 100000 then some (.d (.str (a ++ b))) else none
  | .list xs, .list ys => if xs.length + ys.length ≤ 100000 then some (.l (xs ++ ys)) else none
  | .tuple xs, .tuple ys => if xs.length + ys.length ≤ 100000 then some (.t (xs ++ ys)) else none
  | _, _ => none
def opSub : PyData → PyData → Option PV
  | .int a, .int b => some (.d (.int (a - b)))
  | _, _ => none
def opMul : PyData → PyData → Option PV
  | .int a, .int b => if (-(2 ^ 64) < a ∧ a < 2 ^ 64) ∨ (-(2 ^ 64) < b ∧ b < 2 ^ 64) then some (.d (.int (a * b))) else none
  | _, _ => none
def opDiv : PyData → PyData → Option PV
  | .int a, .int b => if 0 < b ∧ b.natAbs < 2 ^ 8000 then some (.d (.int (a / b))) else none
  | _, _ => none
def opMod : PyData → PyData → Option PV
  | .int a, .int b => if 0 < b then some (.d (.int (a % b))) else none
  | _, _ => none
def opPow : PyData → PyData → Option PV
  | .int a, .int b => if 0 ≤ b ∧ b ≤ 1000 ∧ a.natAbs < 2 ^ 64 then some (.d (.int (a ^ b.toNat))) else none
  | _, _ => none
def opEq : PyData → PyData → Option PV
  | .str a, .str b => some (.d (.bool (decide (a = b))))
  | x, y => if SeqAt.shaped x = true ∧ SeqAt.shaped y = true then some (.d (.bool (PyData.eqv x y))) else none
def opNe : PyData → PyData → Option PV
  | .str a, .str b => some (.d (.bool (!decide (a = b))))
  | x, y => if SeqAt.shaped x = true ∧ SeqAt.shaped y = true then some (.d (.bool (!PyData.eqv x y))) else none
def opIn (x : PyData) : PyData → Option PV
  | .list ys => if SeqAt.shaped x = true ∧ SeqAt.shaped (.list ys) = true then some (.d (.bool (ys.any fun z => PyData.eqv z x))) else none
  | .tuple ys => if SeqAt.shaped x = true ∧ SeqAt.shaped (.tuple ys) = true then some (.d (.bool (ys.any fun z => PyData.eqv z x))) else none
  | _ => none
def opNi (x : PyData) : PyData → Option PV
  | .list ys => if SeqAt.shaped x = true ∧ SeqAt.shaped (.list ys) = true then some (.d (.bool (!ys.any fun z => PyData.eqv z x))) else none
  | .tuple ys => if SeqAt.shaped x = true ∧ SeqAt.shaped (.tuple ys) = true then some (.d (.bool (!ys.any fun z => PyData.eqv z x))) else none
  | _ => none
def opLt : PyData → PyData → Option PV
  | .int a, .int b => some (.d (.bool (decide (a < b))))
  | .str a, .str b => some (.d (.bool (decide (a.cps.toList < b.cps.toList))))
  | _, _ => none
def opLe : PyData → PyData → Option PV
  | .int a, .int b => some (.d (.bool (decide (a ≤ b))))
  | .str a, .str b => some (.d (.bool (!decide (b.cps.toList < a.cps.toList))))
  | _, _ => none
def opGt : PyData → PyData → Option PV
  | .int a, .int b => some (.d (.bool (decide (b < a))))
  | .str a, .str b => some (.d (.bool (decide (b.cps.toList < a.cps.toList))))
  | _, _ => none
def opGe : PyData → PyData → Option PV
  | .int a, .int b => some (.d (.bool (decide (b ≤ a))))
  | .str a, .str b => some (.d (.bool (!decide (a.cps.toList < b.cps.toList))))
  | _, _ => none
def isNone : PyData → Bool
  | .none => true
  | _ => false
def opIs : PyData → PyData → Option PV
  | .bool a, .bool b => some (.d (.bool (decide (a = b))))
  | x, .none => some (.d (.bool (isNone x)))
  | _, _ => none
def opIsNot : PyData → PyData → Option PV
  | .bool a, .bool b => some (.d (.bool (!decide (a = b))))
  | x, .none => some (.d (.bool (!isNone x)))
  | _, _ => none
def opIx : PyData → PyData → Option PV
  | .list xs, .int i => (atI xs i).map .d
  | .tuple xs, .int i => (atI xs i).map .d
  | .str z, .int i => if z.length ≤ 100000 then (atI z.cps.toList i).map fun c => .d (.str ⟨#[c]⟩) else none
  | _, _ => none
def opNeg : PyData → Option PV
  | .int a => some (.d (.int (-a)))
  | _ => none

section
variable {X : Cx}
theorem dq_int {H0 H : Hp} {v : V} {i : Int} (h : Dq X.K H0 H v (.int i)) : v = .int i := by
  cases (show Dp X.K H0 v (.int i) from h)
  rfl
theorem dq_str {H0 H : Hp} {v : V} {i : Str} (h : Dq X.K H0 H v (.str i)) : v = .str i := by
  cases (show Dp X.K H0 v (.str i) from h)
  rfl
theorem dq_bool {H0 H : Hp} {v : V} {i : Bool} (h : Dq X.K H0 H v (.bool i)) : v = .bl i := by
  cases (show Dp X.K H0 v (.bool i) from h)
  rfl
theorem dq_none {H0 H : Hp} {v : V} (h : Dq X.K H0 H v .none) : v = .non := by
  cases (show Dp X.K H0 v .none from h)
  rfl
theorem dq_tup {H0 H : Hp} {v : V} {xs : List PyData} (e : Ex H0 H) (h : Dq X.K H0 H v (.tuple xs)) : ∃ a vs, v = .ref a ∧ SqT X.K H a vs ∧ SqT X.K H0 a vs ∧ DpAll X.K H0 vs xs := by
  cases (show Dp X.K H0 v (.tuple xs) from h) with
  | tup h1 h2 => exact ⟨_, _, rfl, ex_t e h1, h1, h2⟩
theorem or_add : OpR X (binaryOp .Add) (rOf2 X.K opAdd) := by
  intro pins s σ H x y v u Q I rx ry ⟨H0, dx, dy, z, e0, hx, hy, e, out⟩
  unfold opAdd at e
  split at e
  · obtain rfl := Option.some.inj e
    exact op_add pins s σ H x y v u Q I rx ry ⟨_, _, dq_int hx, dq_int hy, out _ (.int _)⟩
  · split at e
    · rename_i hl
      obtain rfl := Option.some.inj e
      exact op_add_str pins s σ H x y v u Q I rx ry ⟨_, _, dq_str hx, dq_str hy, sz_of hl, out _ (.str _)⟩
    · cases e
  · split at e
    · rename_i xs ys hl
      obtain rfl := Option.some.inj e
      obtain ⟨a, vs, rfl, ha, da⟩ := hx
      obtain ⟨b, ws, rfl, hb, db⟩ := hy
      cases rx
      cases ry
      obtain ⟨its, r1, p1, z1⟩ := I.list ha
      obtain ⟨it2, r2, p2, z2⟩ := I.list hb
      have h1 := dpa_len da
      have h2 := dpa_len db
      have h3 := r1.length
      have h4 := r2.length
      have hz : vs.length + ws.length ≤ sizeLine := sz_of (by omega)
      refine add_lists p1 p2 (by rw [List.size_toArray, List.size_toArray]; omega) ?_
      have ea : its.toArray ++ it2.toArray = (its ++ it2).toArray := by simp
      rw [ea]
      exact ⟨.ref _, _, I.lnew (t' := s.toks) (r1.append r2) (by rw [List.length_append]; omega), rfl, out _ _ I.fresh (dpa_app da db)⟩
    · cases e
  · split at e
    · rename_i xs ys hl
      obtain rfl := Option.some.inj e
      obtain ⟨a, vs, rfl, ha, ha0, da⟩ := dq_tup e0 hx
      obtain ⟨b, ws, rfl, hb, hb0, db⟩ := dq_tup e0 hy
      have h1 := dpa_len da
      have h2 := dpa_len db
      refine op_catA pins s σ H _ _ v u Q I rx ry ⟨a, b, vs, ws, rfl, rfl, ha, hb, sz_of (by omega), fun z => ?_, fun z z2 => ?_, fun _ _ p hp => out.2 p _ hp (dpa_app da db)⟩
      · subst z
        cases da
        exact out.1 _ (.tup hb0 db)
      · subst z2
        cases db
        rw [List.append_nil] at out
        exact out.1 _ (.tup ha0 da)
    · cases e
  · cases e
theorem or_sub : OpR X (binaryOp .Sub) (rOf2 X.K opSub) := by
  intro pins s σ H x y v u Q I rx ry ⟨H0, dx, dy, z, e0, hx, hy, e, out⟩
  unfold opSub at e
  split at e
  · obtain rfl := Option.some.inj e
    exact op_sub pins s σ H x y v u Q I rx ry ⟨_, _, dq_int hx, dq_int hy, out _ (.int _)⟩
  · cases e
theorem or_mul : OpR X (binaryOp .Mult) (rOf2 X.K opMul) := by
  intro pins s σ H x y v u Q I rx ry ⟨H0, dx, dy, z, e0, hx, hy, e, out⟩
  unfold opMul at e
  split at e
  · split at e
    · rename_i hl
      obtain rfl := Option.some.inj e
      exact op_mul pins s σ H x y v u Q I rx ry ⟨_, _, dq_int hx, dq_int hy, hl, out _ (.int _)⟩
    · cases e
  · cases e
theorem or_div : OpR X (binaryOp .FloorDiv) (rOf2 X.K opDiv) := by
  intro pins s σ H x y v u Q I rx ry ⟨H0, dx, dy, z, e0, hx, hy, e, out⟩
  unfold opDiv at e
  split at e
  · split at e
    · rename_i a b hl
      obtain rfl := Option.some.inj e
      exact op_fdivW pins s σ H x y v u Q I rx ry ⟨_, _, dq_int hx, dq_int hy, wide_div (b := 8000) hl.1 hl.2 (by decide) (by decide), out _ (.int _)⟩
    · cases e
  · cases e
theorem or_mod : OpR X (binaryOp .Mod) (rOf2 X.K opMod) := by
  intro pins s σ H x y v u Q I rx ry ⟨H0, dx, dy, z, e0, hx, hy, e, out⟩
  unfold opMod at e
  split at e
  · split at e
    · rename_i a b hl
      obtain rfl := Option.some.inj e
      exact op_mod pins s σ H x y v u Q I rx ry ⟨_, _, dq_int hx, dq_int hy, hl, out _ (.int _)⟩
    · cases e
  · cases e
theorem or_pow : OpR X (binaryOp .Pow) (rOf2 X.K opPow) := by
  intro pins s σ H x y v u Q I rx ry ⟨H0, dx, dy, z, e0, hx, hy, e, out⟩
  unfold opPow at e
  split at e
  · split at e
    · rename_i a b hl
      obtain rfl := Option.some.inj e
      exact op_pow pins s σ H x y v u Q I rx ry ⟨_, _, dq_int hx, dq_int hy, ⟨hl.1, by omega, hl.2.2⟩, out _ (.int _)⟩
    · cases e
  · cases e
theorem dec_str (a b : Str) : decide (V.str a = V.str b) = decide (a = b) := by
  by_cases h : a = b
  · rw [h]
    simp
  · rw [decide_eq_false h, decide_eq_false fun q => h (V.str.inj q)]
theorem or_eq (hu : X.A.units + 65 < cLine) : OpR X (compareOp .Eq) (rOf2 X.K opEq) := by
  intro pins s σ H x y v u Q I rx ry ⟨H0, dx, dy, z, e0, hx, hy, e, out⟩
  unfold opEq at e
  split at e
  · obtain rfl := Option.some.inj e
    have h1 := dq_str hx
    have h2 := dq_str hy
    subst h1 h2
    refine op_eq pins s σ H _ _ v u Q I rx ry ⟨rfl, ?_⟩
    rw [dec_str]
    exact out _ (.bl _)
  · split at e
    · rename_i hl
      obtain rfl := Option.some.inj e
      exact op_eqD (by omega) pins s σ H x y v u Q I rx ry ⟨_, _, hx.dp e0, hy.dp e0, hl.1, hl.2, out _ (.bl _)⟩
    · cases e
theorem or_ne (hu : X.A.units + 65 < cLine) : OpR X (compareOp .NotEq) (rOf2 X.K opNe) := by
  intro pins s σ H x y v u Q I rx ry ⟨H0, dx, dy, z, e0, hx, hy, e, out⟩
  unfold opNe at e
  split at e
  · obtain rfl := Option.some.inj e
    have h1 := dq_str hx
    have h2 := dq_str hy
    subst h1 h2
    refine op_ne pins s σ H _ _ v u Q I rx ry ⟨rfl, ?_⟩
    rw [dec_str]
    exact out _ (.bl _)
  · split at e
    · rename_i hl
      obtain rfl := Option.some.inj e
      exact op_neD (by omega) pins s σ H x y v u Q I rx ry ⟨_, _, hx.dp e0, hy.dp e0, hl.1, hl.2, out _ (.bl _)⟩
    · cases e
theorem or_in (hu : X.A.units + 65 < cLine) : OpR X (compareOp .In) (rOf2 X.K opIn) := by
  intro pins s σ H x y v u Q I rx ry ⟨H0, dx, dy, z, e0, hx, hy, e, out⟩
  unfold opIn at e
  split at e
  · split at e
    · rename_i hl
      obtain rfl := Option.some.inj e
      exact op_inD (by omega) pins s σ H x y v u Q I rx ry ⟨_, _, hx.dp e0, hy.dp e0, hl.1, hl.2, out _ (.bl _)⟩
    · cases e
  · split at e
    · rename_i hl
      obtain rfl := Option.some.inj e
      obtain ⟨as, r1⟩ := Dp.reads I _ x v (hx.dp e0) rx
      obtain ⟨bs, r2⟩ := Dp.reads I _ y u (hy.dp e0) ry
      exact SeqAt.in_tuple_reads r2 r1 (SeqAt.canLay_of_shaped hl.2) (SeqAt.canLay_of_shaped hl.1) (room_in_shaped hl.1 hu) ⟨.bl _, H, I, rfl, out _ (.bl _)⟩
    · cases e
  · cases e
theorem or_ni (hu : X.A.units + 65 < cLine) : OpR X (compareOp .NotIn) (rOf2 X.K opNi) := by
  intro pins s σ H x y v u Q I rx ry ⟨H0, dx, dy, z, e0, hx, hy, e, out⟩
  unfold opNi at e
  split at e
  · split at e
    · rename_i hl
      obtain rfl := Option.some.inj e
      exact op_notInD (by omega) pins s σ H x y v u Q I rx ry ⟨_, _, hx.dp e0, hy.dp e0, hl.1, hl.2, out _ (.bl _)⟩
    · cases e
  · split at e
    · rename_i hl
      obtain rfl := Option.some.inj e
      obtain ⟨as, r1⟩ := Dp.reads I _ x v (hx.dp e0) rx
      obtain ⟨bs, r2⟩ := Dp.reads I _ y u (hy.dp e0) ry
      exact SeqAt.notIn_tuple_reads r2 r1 (SeqAt.canLay_of_shaped hl.2) (SeqAt.canLay_of_shaped hl.1) (room_in_shaped hl.1 hu) ⟨.bl _, H, I, rfl, out _ (.bl _)⟩
    · cases e
  · cases e
theorem or_lt : OpR X (compareOp .Lt) (rOf2 X.K opLt) := by
  intro pins s σ H x y v u Q I rx ry ⟨H0, dx, dy, z, e0, hx, hy, e, out⟩
  unfold opLt at e
  split at e
  · obtain rfl := Option.some.inj e
    exact op_lt pins s σ H x y v u Q I rx ry ⟨_, _, dq_int hx, dq_int hy, out _ (.bl _)⟩
  · obtain rfl := Option.some.inj e
    exact op_lt_str pins s σ H x y v u Q I rx ry ⟨_, _, dq_str hx, dq_str hy, out _ (.bl _)⟩
  · cases e
theorem or_le : OpR X (compareOp .LtE) (rOf2 X.K opLe) := by
  intro pins s σ H x y v u Q I rx ry ⟨H0, dx, dy, z, e0, hx, hy, e, out⟩
  unfold opLe at e
  split at e
  · obtain rfl := Option.some.inj e
    exact op_le pins s σ H x y v u Q I rx ry ⟨_, _, dq_int hx, dq_int hy, out _ (.bl _)⟩
  · obtain rfl := Option.some.inj e
    exact op_le_str pins s σ H x y v u Q I rx ry ⟨_, _, dq_str hx, dq_str hy, out _ (.bl _)⟩
  · cases e
theorem or_gt : OpR X (compareOp .Gt) (rOf2 X.K opGt) := by
  intro pins s σ H x y v u Q I rx ry ⟨H0, dx, dy, z, e0, hx, hy, e, out⟩
  unfold opGt at e
  split at e
  · obtain rfl := Option.some.inj e
    exact op_gt pins s σ H x y v u Q I rx ry ⟨_, _, dq_int hx, dq_int hy, out _ (.bl _)⟩
  · obtain rfl := Option.some.inj e
    exact op_gt_str pins s σ H x y v u Q I rx ry ⟨_, _, dq_str hx, dq_str hy, out _ (.bl _)⟩
  · cases e
theorem or_ge : OpR X (compareOp .GtE) (rOf2 X.K opGe) := by
  intro pins s σ H x y v u Q I rx ry ⟨H0, dx, dy, z, e0, hx, hy, e, out⟩
  unfold opGe at e
  split at e
  · obtain rfl := Option.some.inj e
    exact op_ge pins s σ H x y v u Q I rx ry ⟨_, _, dq_int hx, dq_int hy, out _ (.bl _)⟩
  · obtain rfl := Option.some.inj e
    exact op_ge_str pins s σ H x y v u Q I rx ry ⟨_, _, dq_str hx, dq_str hy, out _ (.bl _)⟩
  · cases e
theorem non_of {H0 H : Hp} {x : V} {d : PyData} (h : Dq X.K H0 H x d) : decide (x = .non) = isNone d := by
  cases d with
  | none => rw [dq_none h]; rfl
  | bool b => rw [dq_bool h]; rfl
  | int i => rw [dq_int h]; rfl
  | str z => rw [dq_str h]; rfl
  | list ds =>
    obtain ⟨a, vs, rfl, _⟩ := h
    rfl
  | tuple ds =>
    cases (show Dp X.K H0 x (.tuple ds) from h)
    rfl
  | dict _ => cases (show Dp X.K H0 x _ from h)
theorem or_is : OpR X (compareOp .Is) (rOf2 X.K opIs) := by
  intro pins s σ H x y v u Q I rx ry ⟨H0, dx, dy, z, e0, hx, hy, e, out⟩
  unfold opIs at e
  split at e
  · obtain rfl := Option.some.inj e
    exact op_isBl pins s σ H x y v u Q I rx ry ⟨_, _, dq_bool hx, dq_bool hy, out _ (.bl _)⟩
  · obtain rfl := Option.some.inj e
    refine op_isN pins s σ H x y v u Q I rx ry ⟨dq_none hy, ?_⟩
    rw [non_of hx]
    exact out _ (.bl _)
  · cases e
theorem or_isNot : OpR X (compareOp .IsNot) (rOf2 X.K opIsNot) := by
  intro pins s σ H x y v u Q I rx ry ⟨H0, dx, dy, z, e0, hx, hy, e, out⟩
  unfold opIsNot at e
  split at e
  · obtain rfl := Option.some.inj e
    exact op_notBl pins s σ H x y v u Q I rx ry ⟨_, _, dq_bool hx, dq_bool hy, out _ (.bl _)⟩
  · obtain rfl := Option.some.inj e
    refine op_notN pins s σ H x y v u Q I rx ry ⟨dq_none hy, ?_⟩
    rw [non_of hx]
    exact out _ (.bl _)
  · cases e
theorem at_map {α : Type} {xs : List α} {i : Int} {x : α} (h : atI xs i = some x) : ∃ j, ixN xs.length i = some j ∧ xs[j]? = some x := Option.bind_eq_some_iff.mp h
theorem at_dpa {H0 : Hp} {vs : List V} {xs : List PyData} {i : Int} {x : PyData} (d : DpAll X.K H0 vs xs) (h : atI xs i = some x) : ∃ v, atI vs i = some v ∧ Dp X.K H0 v x := by
  obtain ⟨j, h1, h2⟩ := at_map h
  obtain ⟨v, hv, dv⟩ := dpa_get d h2
  refine ⟨v, ?_, dv⟩
  unfold atI
  rw [dpa_len d, h1]
  exact hv
theorem ix_of : IxR X (rOf2 X.K opIx) := by
  intro va sc pins s σ H x y v u Q I rx ry ⟨H0, dx, dy, z, e0, hx, hy, e, out⟩ hs
  unfold opIx at e
  split at e
  · obtain ⟨d, e1, rfl⟩ := map_some e
    obtain ⟨a, vs, rfl, ha, da⟩ := hx
    obtain ⟨w, hw, dw⟩ := at_dpa da e1
    exact ix_list va sc pins s σ H _ y v u Q I rx ry ⟨a, vs, _, w, rfl, dq_int hy, ha, hw, out w dw⟩ hs
  · obtain ⟨d, e1, rfl⟩ := map_some e
    obtain ⟨a, vs, rfl, ha, _, da⟩ := dq_tup e0 hx
    obtain ⟨w, hw, dw⟩ := at_dpa da e1
    exact ix_tup va sc pins s σ H _ y v u Q I rx ry ⟨a, vs, _, w, rfl, dq_int hy, ha, hw, out w dw⟩ hs
  · split at e
    · rename_i hl
      obtain ⟨c, e1, rfl⟩ := map_some e
      exact ix_str va sc pins s σ H _ y v u Q I rx ry ⟨_, _, c, dq_str hx, dq_int hy, sz_of hl, e1, out _ (.str _)⟩ hs
    · cases e
  · cases e
theorem un_of : UnR X (unaryOp .USub) (rOf1 X.K opNeg) := by
  intro pins s σ H x v Q I rx ⟨H0, dx, z, e0, hx, e, out⟩
  unfold opNeg at e
  split at e
  · obtain rfl := Option.some.inj e
    exact un_neg pins s σ H x v Q I rx ⟨_, dq_int hx, out _ (.int _)⟩
  · cases e
def cutD (xs : List PyData) (lo hi : Option Int) : List PyData := (xs.drop (HT.sIx xs.length 0 lo)).take (HT.sIx xs.length xs.length hi - HT.sIx xs.length 0 lo)
def opSl (x : PyData) (lo hi : Option Int) : Option PV := match x with
  | .list xs => some (.l (cutD xs lo hi))
  | .tuple xs => some (.t (cutD xs lo hi))
  | .str z => if z.length ≤ 100000 then some (.d (.str (cutS z lo hi))) else none
  | _ => none
def rOfS (K : PySem.W.Frag) (op : PyData → Option Int → Option Int → Option PV) : V → Option Int → Option Int → Hp → VK → Prop := fun x lo hi H Q => ∃ (H0 : Hp) (dx : PyData) (z : PV), Ex H0 H ∧ Dq K H0 H x dx ∧ op dx lo hi = some z ∧ Out K H0 H Q z
theorem cut_dpa {H0 : Hp} {vs : List V} {xs : List PyData} {lo hi : Option Int} (d : DpAll X.K H0 vs xs) : DpAll X.K H0 (cutV vs lo hi) (cutD xs lo hi) := by
  unfold cutV cutD
  rw [dpa_len d]
  exact dpa_take _ (dpa_drop _ d)
theorem sl_of : SlR X (rOfS X.K opSl) := by
  intro pins s σ H x v vl vu lo hi sl Q I rx hs pl pu ⟨H0, dx, z, e0, hx, e, out⟩
  unfold opSl at e
  split at e
  · obtain rfl := Option.some.inj e
    obtain ⟨a, vs, rfl, ha, da⟩ := hx
    exact sl_list pins s σ H _ v vl vu lo hi sl Q I rx hs pl pu ⟨a, vs, rfl, ha, fun p hp => out p _ hp (cut_dpa da)⟩
  · obtain rfl := Option.some.inj e
    obtain ⟨a, vs, rfl, ha, ha0, da⟩ := dq_tup e0 hx
    refine sl_tupA pins s σ H _ v vl vu lo hi sl Q I rx hs pl pu ⟨a, vs, rfl, ha, fun w => out.1 _ ?_, fun _ p hp => out.2 p _ hp (cut_dpa da)⟩
    rename_i xs
    have e1 : cutD xs lo hi = xs := by
      unfold cutD
      rw [dpa_len da] at w
      rw [w.1, w.2]
      simp
    rw [e1]
    exact .tup ha0 da
  · split at e
    · rename_i hl
      obtain rfl := Option.some.inj e
      exact sl_str pins s σ H _ v vl vu lo hi sl Q I rx hs pl pu ⟨_, dq_str hx, sz_of hl, out _ (.str _)⟩
    · cases e
  · cases e
end
end XN

set_option maxRecDepth 100000
set_option maxHeartbeats 4000000
/-! calls of built-ins on data -/
namespace XN
open PySem PySem.Spec PyProof.Rows L2 Evl

def opLen : List PyData → Option PV
  | [.list xs] => some (.d (.int xs.length))
  | [.tuple xs] => some (.d (.int xs.length))
  | [.str z] => if z.length ≤ 100000 then some (.d (.int z.length)) else none
  | _ => none
def opInt : List PyData → Option PV
  | [.int i] => some (.d (.int i))
  | [.bool b] => some (.d (.int (if b then 1 else 0)))
  | _ => none
def opAbs : List PyData → Option PV
  | [.int i] => some (.d (.int (if i < 0 then -i else i)))
  | _ => none
def opMax : List PyData → Option PV
  | [.int i, .int j] => some (.d (.int (if j > i then j else i)))
  | _ => none
def opMin : List PyData → Option PV
  | [.int i, .int j] => some (.d (.int (if j < i then j else i)))
  | _ => none
def opList : List PyData → Option PV
  | [.list xs] => some (.l xs)
  | [.tuple xs] => some (.l xs)
  | _ => none
def opTup : List PyData → Option PV
  | [.list xs] => some (.t xs)
  | [.tuple xs] => some (.d (.tuple xs))
  | _ => none
open Classical in
noncomputable def opSort : List PyData → Option PV
  | [.list xs] => if XC.Srtbl xs then some (.l (XC.srt xs)) else none
  | _ => none
def opRepr : List PyData → Option PV
  | [x] => if x.showable = true ∧ x.depth ≤ 30 ∧ x.shown.length ≤ 100000 then some (.d (.str x.shown)) else none
  | _ => none
def boolsOf : List PyData → Option (List Bool)
  | [] => some []
  | .bool b :: xs => (boolsOf xs).map fun bs => b :: bs
  | _ => none
def opAny : List PyData → Option PV
  | [.list xs] => (boolsOf xs).map fun bs => .d (.bool (bs.any id))
  | _ => none
def opAll : List PyData → Option PV
  | [.list xs] => (boolsOf xs).map fun bs => .d (.bool (bs.all id))
  | _ => none
def tyOf : PyData → String
  | .none => "NoneType"
  | .bool _ => "bool"
  | .int _ => "int"
  | .str _ => "str"
  | .list _ => "list"
  | .tuple _ => "tuple"
  | .dict _ => "dict"
def opIsi (T : String) (x : PyData) : Option PV := (kitB (tyOf x) T).map fun b => .d (.bool b)
section
variable {X : Cx}
theorem bools_of {H0 : Hp} : ∀ {vs : List V} {xs : List PyData} {bs : List Bool}, DpAll X.K H0 vs xs → boolsOf xs = some bs → vs = bs.map V.bl
  | _, _, _, .nil, e => by
    obtain rfl := Option.some.inj e
    rfl
  | _, _, _, .cons (d := d) h t, e => by
    cases d with
    | bool b =>
      obtain ⟨cs, e1, rfl⟩ := map_some (show (boolsOf _).map _ = _ from e)
      cases h
      rw [bools_of t e1]
      rfl
    | _ => cases e
theorem cr_len : CallR X (.builtin "len") (rOfB X.K opLen) := by
  intro pins s σ H xs us Q I r ⟨H0, ds, z, e0, hd, e, out⟩
  unfold opLen at e
  split at e
  · obtain rfl := Option.some.inj e
    cases hd with
    | cons h t =>
      cases t
      obtain ⟨a, vs, rfl, ha, da⟩ := h
      refine call_len_seq pins s σ H _ us Q I r ⟨a, vs, rfl, .inl ha, ?_⟩
      rw [dpa_len da]
      exact out _ (.int _)
  · obtain rfl := Option.some.inj e
    cases hd with
    | cons h t =>
      cases t
      obtain ⟨a, vs, rfl, ha, _, da⟩ := dq_tup e0 h
      refine call_len_seq pins s σ H _ us Q I r ⟨a, vs, rfl, .inr ha, ?_⟩
      rw [dpa_len da]
      exact out _ (.int _)
  · split at e
    · rename_i hl
      obtain rfl := Option.some.inj e
      cases hd with
      | cons h t =>
        cases t
        obtain rfl := dq_str h
        exact call_len_str pins s σ H _ us Q I r ⟨_, rfl, sz_of hl, out _ (.int _)⟩
    · cases e
  · cases e
theorem cr_int : CallR X (.type "int") (rOfB X.K opInt) := by
  intro pins s σ H xs us Q I r ⟨H0, ds, z, e0, hd, e, out⟩
  unfold opInt at e
  split at e
  · obtain rfl := Option.some.inj e
    cases hd with
    | cons h t =>
      cases t
      obtain rfl := dq_int h
      exact call_int1 pins s σ H _ us Q I r (.inl ⟨_, rfl, out _ (.int _)⟩)
  · obtain rfl := Option.some.inj e
    cases hd with
    | cons h t =>
      cases t
      obtain rfl := dq_bool h
      exact call_int1 pins s σ H _ us Q I r (.inr ⟨_, rfl, out _ (.int _)⟩)
  · cases e
theorem cr_abs : CallR X (.builtin "abs") (rOfB X.K opAbs) := by
  intro pins s σ H xs us Q I r ⟨H0, ds, z, e0, hd, e, out⟩
  unfold opAbs at e
  split at e
  · obtain rfl := Option.some.inj e
    cases hd with
    | cons h t =>
      cases t
      obtain rfl := dq_int h
      exact call_abs pins s σ H _ us Q I r ⟨_, rfl, out _ (.int _)⟩
  · cases e
theorem cr_max (hc : X.calm = true) : CallR X (.builtin "max") (rOfB X.K opMax) := by
  intro pins s σ H xs us Q I r ⟨H0, ds, z, e0, hd, e, out⟩
  unfold opMax at e
  split at e
  · obtain rfl := Option.some.inj e
    cases hd with
    | cons h t =>
      cases t with
      | cons h2 t =>
        cases t
        obtain rfl := dq_int h
        obtain rfl := dq_int h2
        exact call_max2 hc pins s σ H _ us Q I r ⟨_, _, rfl, out _ (.int _)⟩
  · cases e
theorem cr_min (hc : X.calm = true) : CallR X (.builtin "min") (rOfB X.K opMin) := by
  intro pins s σ H xs us Q I r ⟨H0, ds, z, e0, hd, e, out⟩
  unfold opMin at e
  split at e
  · obtain rfl := Option.some.inj e
    cases hd with
    | cons h t =>
      cases t with
      | cons h2 t =>
        cases t
        obtain rfl := dq_int h
        obtain rfl := dq_int h2
        exact call_min2 hc pins s σ H _ us Q I r ⟨_, _, rfl, out _ (.int _)⟩
  · cases e
theorem cr_list : CallR X (.type "list") (rOfB X.K opList) := by
  intro pins s σ H xs us Q I r ⟨H0, ds, z, e0, hd, e, out⟩
  unfold opList at e
  split at e
  · obtain rfl := Option.some.inj e
    cases hd with
    | cons h t =>
      cases t
      obtain ⟨a, vs, rfl, ha, da⟩ := h
      exact call_list_of pins s σ H _ us Q I r ⟨a, vs, rfl, .inl ha, fun l hl => out l _ hl da⟩
  · obtain rfl := Option.some.inj e
    cases hd with
    | cons h t =>
      cases t
      obtain ⟨a, vs, rfl, ha, _, da⟩ := dq_tup e0 h
      exact call_list_of pins s σ H _ us Q I r ⟨a, vs, rfl, .inr ha, fun l hl => out l _ hl da⟩
  · cases e
theorem cr_tup : CallR X (.type "tuple") (rOfB X.K opTup) := by
  intro pins s σ H xs us Q I r ⟨H0, ds, z, e0, hd, e, out⟩
  unfold opTup at e
  split at e
  · obtain rfl := Option.some.inj e
    cases hd with
    | cons h t =>
      cases t
      obtain ⟨a, vs, rfl, ha, da⟩ := h
      exact call_tuple_of pins s σ H _ us Q I r ⟨a, vs, rfl, .inl ⟨ha, fun l hl => out.2 l _ hl da⟩⟩
  · obtain rfl := Option.some.inj e
    cases hd with
    | cons h t =>
      cases t
      obtain ⟨a, vs, rfl, ha, h0, da⟩ := dq_tup e0 h
      exact call_tuple_of pins s σ H _ us Q I r ⟨a, vs, rfl, .inr ⟨ha, out _ (.tup h0 da)⟩⟩
  · cases e
theorem cr_sort (hu : X.A.units + 100 < cLine) : CallR X (.builtin "sorted") (rOfB X.K opSort) := by
  intro pins s σ H xs us Q I r ⟨H0, ds, z, e0, hd, e, out⟩
  unfold opSort at e
  split at e
  · split at e
    · rename_i hS
      obtain rfl := Option.some.inj e
      cases hd with
      | cons h t =>
        cases t
        obtain ⟨a, vs, rfl, ha, da⟩ := h
        refine XC.cr_sortedD hu pins s σ H _ us Q I r ⟨a, vs, _, rfl, ha, dpa_ex e0 _ _ da, hS, fun ps p pm es hp => out p _ hp ?_⟩
        rw [← es]
        exact XC.dp_of_pairs fun q hq => XC.dp_zip da q (pm.mem_iff.mp hq)
    · cases e
  · cases e
theorem cr_repr (hg : X.A.guards = some []) (hu : X.A.units + 64 < cLine) : CallR X (.builtin "repr") (rOfB X.K opRepr) := by
  intro pins s σ H xs us Q I r ⟨H0, ds, z, e0, hd, e, out⟩
  unfold opRepr at e
  split at e
  · split at e
    · rename_i hl
      obtain rfl := Option.some.inj e
      cases hd with
      | cons h t =>
        cases t
        exact XG.repr_data hg hu pins s σ H _ us Q I r ⟨_, _, rfl, h.dp e0, hl.1, hl.2.1, sz_of hl.2.2, out _ (.str _)⟩
    · cases e
  · cases e
theorem cr_any (hc : X.calm = true) : CallR X (.builtin "any") (rOfB X.K opAny) := by
  intro pins s σ H xs us Q I r ⟨H0, ds, z, e0, hd, e, out⟩
  unfold opAny at e
  split at e
  · obtain ⟨bs, e1, rfl⟩ := map_some e
    cases hd with
    | cons h t =>
      cases t
      obtain ⟨a, vs, rfl, ha, da⟩ := h
      rw [bools_of da e1] at ha
      exact L2.cr_any hc pins s σ H _ us Q I r ⟨a, bs, rfl, ha, out _ (.bl _)⟩
  · cases e
theorem cr_all (hc : X.calm = true) : CallR X (.builtin "all") (rOfB X.K opAll) := by
  intro pins s σ H xs us Q I r ⟨H0, ds, z, e0, hd, e, out⟩
  unfold opAll at e
  split at e
  · obtain ⟨bs, e1, rfl⟩ := map_some e
    cases hd with
    | cons h t =>
      cases t
      obtain ⟨a, vs, rfl, ha, da⟩ := h
      rw [bools_of da e1] at ha
      exact L2.cr_all hc pins s σ H _ us Q I r ⟨a, bs, rfl, ha, out _ (.bl _)⟩
  · cases e
theorem ty_of {H0 H : Hp} {v : V} {d : PyData} (e0 : Ex H0 H) (h : Dq X.K H0 H v d) : TyX X.K H v (.type (tyOf d)) := by
  cases d with
  | none => rw [dq_none h]; exact .base .non
  | bool b => rw [dq_bool h]; exact .base (.bl _)
  | int i => rw [dq_int h]; exact .base (.int _)
  | str z => rw [dq_str h]; exact .base (.str _)
  | list ds =>
    obtain ⟨a, vs, rfl, ha, _⟩ := h
    rcases ha with (ha | ⟨o, ha⟩) | ⟨o, its, n, hk, hc, _⟩
    · exact .base (.lst ha)
    · exact .base (.frz ha)
    · exact .kList hk hc
  | tuple ds =>
    obtain ⟨a, vs, rfl, ha, _⟩ := dq_tup e0 h
    rcases ha with (ha | ⟨o, ha⟩) | ⟨o, its, n, hk, hc, _⟩
    · exact .base (.tup ha)
    · exact .fTuple ha
    · exact .kTuple hk hc
  | dict _ => cases (show Dp X.K H0 v _ from h)
theorem den1_isi {K : PySem.W.Frag} (T : String) {te : TE} {f : DF} (h : DenE K te f) (hK : ∀ {H0 H : Hp} {v : V} {d : PyData}, Ex H0 H → Dq K H0 H v d → TyX K H v (.type (tyOf d))) : DenE K (tCB (rIsi K) (tCons te (tCons (tC (.ty T)) tNil))) (dUn (opIsi T) f) := by
  intro B Fr H0 s σ H r s' R e Q k
  obtain ⟨⟨r1, s1⟩, e1, e⟩ := bind_some e
  obtain ⟨x, e3, e⟩ := bind_some e
  obtain ⟨z, e5, e6⟩ := map_some e
  obtain ⟨rfl, rfl⟩ := Prod.mk.inj e6
  obtain ⟨b, e7, rfl⟩ := map_some e5
  refine h B Fr H0 s σ H r1 s1 R e1 _ fun v1 H1 H01 x1 R1 q1 => ?_
  obtain ⟨H02, x2, R2, q2⟩ := q1.hold R1
  exact ⟨v1, .ty T, _, _, b, rfl, .ty T, hK R2.e0 (q2.dq R2 e3), kit_ty e7, k _ H1 H02 (x1.trans x2) R2 (.bl b)⟩
end
end XN

set_option maxRecDepth 100000
set_option maxHeartbeats 4000000
/-! the rules by syntax -/
namespace XN
open PySem PySem.Spec PyProof.Rows L2 Evl

section
variable {X : Cx} {a b c e : Expr} {es : List Expr} {ta tb tc te : PySem.W.Frag → TE} {tt tu : PySem.W.Frag → TT} {tas : PySem.W.Frag → TA} {f g h : DF} {t u : DT} {fa : DA} {pos : Pos}
theorem de_v (i : Nat) {x : Str} {pos : Pos} (hN : X.N[i]? = some x := by rfl) (hv : Vis X.env.scope x := by first | exact Or.inl rfl | exact Or.inr (Or.inl rfl) | exact Or.inr (Or.inr rfl)) (hd : (x == ("__debug__" : Str)) = false := by decide)
    (hcd : (x == ("__classdict__" : Str)) = false := by decide) : DE X (.Name x pos) (fun _ => tVar i) (dV i) := ⟨pv i hN hv hd hcd, den_v i⟩
theorem de_int {i : Int} {j} : DE X (.Constant (.int i) j pos) (fun _ => tC (.int i)) (dC (.int i)) := ⟨pe_int, den_c fun _ => .int i⟩
theorem de_bl {i : Bool} {j} : DE X (.Constant (.bool i) j pos) (fun _ => tC (.bl i)) (dC (.bool i)) := ⟨pe_bl, den_c fun _ => .bl i⟩
theorem de_non {j} : DE X (.Constant .none j pos) (fun _ => tC .non) (dC .none) := ⟨pe_non, den_c fun _ => .non⟩
theorem de_str {i : Str} {j} : DE X (.Constant (.str i) j pos) (fun _ => tC (.str i)) (dC (.str i)) := ⟨pe_str, den_c fun _ => .str i⟩
theorem de_bin {op : Operator} {od : PyData → PyData → Option PV} (ho : OpR X (binaryOp op) (rOf2 X.K od)) (ha : DE X a ta f) (hb : DE X b tb g) : DE X (.BinOp a op b pos) (fun K => tOp (rOf2 K od) (ta K) (tb K)) (dOp od f g) := ⟨pe_op ho ha.pe hb.pe, den_op den2_of ha.den hb.den⟩
theorem de_cmp {op : CmpOp} {od : PyData → PyData → Option PV} (ho : OpR X (compareOp op) (rOf2 X.K od)) (ha : DE X a ta f) (hb : DE X b tb g) (hm : behindInMarks op b = false := by first | exact nomark _ | with_unfolding_all rfl) :
    DE X (.Compare a [op] [b] pos) (fun K => tOp (rOf2 K od) (ta K) (tb K)) (dOp od f g) := ⟨pe_cmpR ho ha.pe hb.pe hm, den_op den2_of ha.den hb.den⟩
theorem dt_cmp {op : CmpOp} {od : PyData → PyData → Option PV} (ho : OpR X (compareOp op) (rOf2 X.K od)) (ha : DE X a ta f) (hb : DE X b tb g) (hm : behindInMarks op b = false := by first | exact nomark _ | with_unfolding_all rfl) :
    DTe X (.Compare a [op] [b] pos) (fun K => tTest (tOp (rOf2 K od) (ta K) (tb K))) (dTest (dOp od f g)) := ⟨pt_cmpR ho ha.pe hb.pe hm, den_test (den_op den2_of ha.den hb.den)⟩
theorem de_neg (ha : DE X a ta f) : DE X (.UnaryOp .USub a pos) (fun K => tUn (rOf1 K opNeg) (ta K)) (dUn opNeg f) := ⟨pe_un un_of ha.pe, den_un den1_of ha.den⟩
theorem de_ix (ha : DE X a ta f) (hb : DE X b tb g) (hs : PlainIx b := by exact fun _ _ => rfl) : DE X (.Subscript a b pos) (fun K => tOp (rOf2 K opIx) (ta K) (tb K)) (dOp opIx f g) := ⟨pe_ix ix_of ha.pe hb.pe hs, den_op den2_of ha.den hb.den⟩
theorem dt_val (h : DE X e te f) (he : ∀ whole, isTrue e X.env whole = (do let v ← whole; standAt e.pos; holding [v] (truthy v)) := by intro _; rfl) : DTe X e (fun K => tB (te K)) (dTest f) := ⟨pt_val h.pe he, den_B h.den⟩
theorem dt_not (h : DTe X e tt t) : DTe X (.UnaryOp .Not e pos) (fun K => tNot (tt K)) (dNot t) := ⟨pt_not h.pt, den_not h.den⟩
/-- and, or as tests, from the right -/
structure DW (X : Cx) (e : Expr) (tt : PySem.W.Frag → TT) (f : DT) : Prop where
  pw : PW X e (tt X.K)
  den : DenT X.K (tt X.K) f
theorem dw_and1 (h : DTe X e tt t) : DW X (.BoolOp .And [e] pos) tt t := ⟨pw_and1 h.pt, h.den⟩
theorem dw_or1 (h : DTe X e tt t) : DW X (.BoolOp .Or [e] pos) tt t := ⟨pw_or1 h.pt, h.den⟩
theorem dw_and {rest : List Expr} (h : DTe X a tt t) (hr : DW X (.BoolOp .And (b :: rest) pos) tu u) : DW X (.BoolOp .And (a :: b :: rest) pos) (fun K => tAnd (tt K) (tu K)) (dAnd t u) := ⟨pw_and h.pt hr.pw, den_and h.den hr.den⟩
theorem dw_or {rest : List Expr} (h : DTe X a tt t) (hr : DW X (.BoolOp .Or (b :: rest) pos) tu u) : DW X (.BoolOp .Or (a :: b :: rest) pos) (fun K => tOr (tt K) (tu K)) (dOr t u) := ⟨pw_or h.pt hr.pw, den_or h.den hr.den⟩
theorem dt_w (h : DW X e tt t) : DTe X e tt t := ⟨h.pw.pt, h.den⟩
/-- and, or, not as values -/
def dAndV (f g : DF) : DF := fun s => (dTest f s).bind fun p => if p.1 = true then g p.2 else some (.d (.bool false), p.2)
def dOrV (f g : DF) : DF := fun s => (dTest f s).bind fun p => if p.1 = true then some (.d (.bool true), p.2) else g p.2
def dNotV (f : DF) : DF := fun s => (dTest f s).map fun p => (.d (.bool (!p.1)), p.2)
theorem den_andV {K : PySem.W.Frag} {ta tb : TE} (h1 : DenE K ta f) (h2 : DenE K tb g) : DenE K (tAndV ta tb) (dAndV f g) := by
  intro B Fr H0 s σ H r s' R e Q k
  obtain ⟨⟨b1, s1⟩, e1, e⟩ := bind_some e
  refine h1 B Fr H0 s σ H _ s1 R (test_eq e1) _ fun v H1 H01 x1 R1 q1 => ?_
  cases q1
  refine ⟨b1, rfl, ?_⟩
  cases b1 with
  | true => exact ite_tt (h2 B Fr H01 s1 σ H1 r s' R1 e Q fun v H2 H02 x2 R2 => k v H2 H02 (x1.trans x2) R2)
  | false =>
    obtain ⟨rfl, rfl⟩ := Prod.mk.inj (Option.some.inj e)
    exact ite_ff (k _ H1 H01 x1 R1 (Dp.bl false))
theorem den_orV {K : PySem.W.Frag} {ta tb : TE} (h1 : DenE K ta f) (h2 : DenE K tb g) : DenE K (tOrV ta tb) (dOrV f g) := by
  intro B Fr H0 s σ H r s' R e Q k
  obtain ⟨⟨b1, s1⟩, e1, e⟩ := bind_some e
  refine h1 B Fr H0 s σ H _ s1 R (test_eq e1) _ fun v H1 H01 x1 R1 q1 => ?_
  cases q1
  refine ⟨b1, rfl, ?_⟩
  cases b1 with
  | false => exact ite_ff (h2 B Fr H01 s1 σ H1 r s' R1 e Q fun v H2 H02 x2 R2 => k v H2 H02 (x1.trans x2) R2)
  | true =>
    obtain ⟨rfl, rfl⟩ := Prod.mk.inj (Option.some.inj e)
    exact ite_tt (k _ H1 H01 x1 R1 (Dp.bl true))
theorem den_notV {K : PySem.W.Frag} {ta : TE} (h1 : DenE K ta f) : DenE K (tNotV ta) (dNotV f) := by
  intro B Fr H0 s σ H r s' R e Q k
  obtain ⟨⟨b1, s1⟩, e1, e⟩ := map_some e
  obtain ⟨rfl, rfl⟩ := Prod.mk.inj e
  refine h1 B Fr H0 s σ H _ s1 R (test_eq e1) _ fun v H1 H01 x1 R1 q1 => ?_
  cases q1
  exact ⟨b1, rfl, k _ H1 H01 x1 R1 (Dp.bl (!b1))⟩
theorem de_and {rest : List Expr} (ha : DE X a ta f) (hb : DE X (.BoolOp .And (b :: rest) pos) tb g) : DE X (.BoolOp .And (a :: b :: rest) pos) (fun K => tAndV (ta K) (tb K)) (dAndV f g) := ⟨pe_and ha.pe hb.pe, den_andV ha.den hb.den⟩
theorem de_or {rest : List Expr} (ha : DE X a ta f) (hb : DE X (.BoolOp .Or (b :: rest) pos) tb g) : DE X (.BoolOp .Or (a :: b :: rest) pos) (fun K => tOrV (ta K) (tb K)) (dOrV f g) := ⟨pe_or ha.pe hb.pe, den_orV ha.den hb.den⟩
theorem de_one {op} (ha : DE X a ta f) : DE X (.BoolOp op [a] pos) ta f := ⟨pe_one ha.pe, ha.den⟩
theorem de_not (ha : DE X a ta f) : DE X (.UnaryOp .Not a pos) (fun K => tNotV (ta K)) (dNotV f) := ⟨pe_not ha.pe, den_notV ha.den⟩
theorem de_if (hc : DTe X c tt t) (ha : DE X a ta f) (hb : DE X b tb g) : DE X (.IfExp c a b pos) (fun K => tIf (tt K) (ta K) (tb K)) (dIf t f g) := ⟨pe_ifExp hc.pt ha.pe hb.pe, den_ifE hc.den ha.den hb.den⟩
/-- a op b op' c -/
def dChain (op op' : PyData → PyData → Option PV) (f g h : DF) : DF := fun s => (f s).bind fun p => (g p.2).bind fun q => (p.1.hold.dat q.2).bind fun x => (q.1.hold.dat q.2).bind fun y => (op x y).bind fun z => match z with
  | .d (.bool true) => (h q.2).bind fun w => (q.1.hold.dat w.2).bind fun y' => (w.1.hold.dat w.2).bind fun z => (op' y' z).map fun r => (r.rv, w.2)
  | .d (.bool false) => some (.d (.bool false), q.2)
  | _ => none
theorem den_chain {K : PySem.W.Frag} {ta tb tc : TE} {rr rr' : R2} {op op' : PyData → PyData → Option PV} (ho : Den2 K rr op) (ho' : Den2 K rr' op') (ha : DenE K ta f) (hb : DenE K tb g) (hc : DenE K tc h) : DenE K (tChain rr rr' ta tb tc) (dChain op op' f g h) := by
  intro B Fr H0 s σ H r s' R e Q k
  obtain ⟨⟨r1, s1⟩, e1, e⟩ := bind_some e
  obtain ⟨⟨r2, s2⟩, e2, e⟩ := bind_some e
  obtain ⟨x, e3, e⟩ := bind_some e
  obtain ⟨y, e4, e⟩ := bind_some e
  obtain ⟨z, e5, e⟩ := bind_some e
  refine ha B Fr H0 s σ H r1 s1 R e1 _ fun v1 H1 H01 x1 R1 q1 => ?_
  obtain ⟨H02, x2, R2, q2⟩ := q1.hold R1
  refine hb B Fr H02 s1 σ H1 r2 s2 R2 e2 _ fun v2 H2 H03 x3 R3 q3 => ?_
  obtain ⟨H04, x4, R4, q4⟩ := q3.hold R3
  have x14 := ((x1.trans x2).trans x3).trans x4
  dsimp only at e
  split at e
  · refine ho H04 H2 v1 v2 x y _ _ R4.e0 ((q2.up (x3.trans x4)).dq R4 e3) (q4.dq R4 e4) e5 (out_of R4 fun v H' H0' x5 R5 q5 => ?_)
    cases q5
    refine ⟨true, rfl, ite_tt ?_⟩
    obtain ⟨⟨r6, s6⟩, e6, e⟩ := bind_some e
    obtain ⟨y', e7, e⟩ := bind_some e
    obtain ⟨z', e8, e⟩ := bind_some e
    obtain ⟨w, e9, e⟩ := map_some e
    obtain ⟨rfl, rfl⟩ := Prod.mk.inj e
    refine hc B Fr H0' s2 σ H' r6 s6 R5 e6 _ fun v6 H6 H06 x6 R6 q6 => ?_
    obtain ⟨H07, x7, R7, q7⟩ := q6.hold R6
    refine ho' H07 H6 v2 v6 y' z' w Q R7.e0 ((q4.up ((x5.trans x6).trans x7)).dq R7 e7) (q7.dq R7 e8) e9 (out_of R7 fun v H' H0' x8 R8 q8 => ?_)
    exact k v H' H0' (((x14.trans x5).trans x6).trans (x7.trans x8)) R8 q8
  · refine ho H04 H2 v1 v2 x y _ _ R4.e0 ((q2.up (x3.trans x4)).dq R4 e3) (q4.dq R4 e4) e5 (out_of R4 fun v H' H0' x5 R5 q5 => ?_)
    cases q5
    obtain ⟨rfl, rfl⟩ := Prod.mk.inj (Option.some.inj e)
    exact ⟨false, rfl, ite_ff (k _ H' H0' (x14.trans x5) R5 (Dp.bl false))⟩
  · cases e
theorem de_chain {op op' : CmpOp} {od od' : PyData → PyData → Option PV} (ho : OpR X (compareOp op) (rOf2 X.K od)) (ho' : OpR X (compareOp op') (rOf2 X.K od')) (ha : DE X a ta f) (hb : DE X b tb g) (hc : DE X c tc h)
    (hm : lastMarks [op, op'] [b, c] = false := by with_unfolding_all rfl) : DE X (.Compare a [op, op'] [b, c] pos) (fun K => tChain (rOf2 K od) (rOf2 K od') (ta K) (tb K) (tc K)) (dChain od od' f g h) := ⟨pe_chain ho ho' ha.pe hb.pe hc.pe hm, den_chain den2_of den2_of ha.den hb.den hc.den⟩
theorem dt_chain {op op' : CmpOp} {od od' : PyData → PyData → Option PV} (ho : OpR X (compareOp op) (rOf2 X.K od)) (ho' : OpR X (compareOp op') (rOf2 X.K od')) (ha : DE X a ta f) (hb : DE X b tb g) (hc : DE X c tc h)
    (hm : lastMarks [op, op'] [b, c] = false := by with_unfolding_all rfl) : DTe X (.Compare a [op, op'] [b, c] pos) (fun K => tTest (tChain (rOf2 K od) (rOf2 K od') (ta K) (tb K) (tc K))) (dTest (dChain od od' f g h)) := ⟨pt_chain ho ho' ha.pe hb.pe hc.pe hm, den_test (den_chain den2_of den2_of ha.den hb.den hc.den)⟩
/-! arguments, displays, calls -/
theorem da_nil : DAs X [] (fun _ => tNil) dNil := ⟨pa_nil, den_nil, fun s p h => by
  obtain rfl := Option.some.inj h
  rfl⟩
theorem da_cons (ha : DE X e te f) (hr : DAs X es tas fa) (hs : starEach (e :: es) X.env = (false, eval e X.env) :: starEach es X.env := by rfl) : DAs X (e :: es) (fun K => tCons (te K) (tas K)) (dCons f fa) := ⟨pa_cons ha.pe hr.pa hs, den_cons ha.den hr.den, fun s p h => by
  obtain ⟨q, e1, h⟩ := bind_some h
  obtain ⟨w, e2, rfl⟩ := map_some h
  show (q.1.hold :: w.1).length = _
  rw [List.length_cons, hr.len _ _ e2]
  rfl⟩
theorem de_tup {x1} (h : DAs X es tas fa) : DE X (.Tuple es x1 pos) (fun K => tTup (tas K)) (dTup fa) := ⟨pe_tup h.pa, den_tup h.den⟩
theorem de_lst (h : DAs X es tas fa) : DE X (.List es pos) (fun K => tLst (tas K)) (dLst fa) := ⟨pe_lst h.pa, den_lst h.den⟩
theorem de_cb {x : Str} {p : Pos} {id : String} {op : List PyData → Option PV} (hc : CallR X (.builtin id) (rOfB X.K op)) (hg : Gl X x) (hm : X.mg x = none) (hv : bootBuiltins x = some (.builtin id)) (ha : DAs X (e :: es) tas fa) (hn : x ≠ "__name__" := by decide) (hdb : (x == ("__debug__" : Str)) = false := by decide)
    (he : starEach (e :: es) X.env = (false, eval e X.env) :: starEach es X.env := by rfl) (hpl : (backTo pos (starEach es X.env)).any (·.1) = false := by rfl) : DE X (.Call (.Name x p) (e :: es) [] pos) (fun K => tCB (rOfB K op) (tas K)) (dCB op fa) := ⟨pe_callB hc hg hm hv ha.pa hn hdb he hpl, den_cb denB_of ha.den⟩
theorem de_ct {x : Str} {p : Pos} {T : String} {op : List PyData → Option PV} (hc : CallR X (.type T) (rOfB X.K op)) (hg : Gl X x) (hm : X.mg x = none) (hv : bootBuiltins x = some (.type T)) (ha : DAs X (e :: es) tas fa) (hn : x ≠ "__name__" := by decide) (hdb : (x == ("__debug__" : Str)) = false := by decide)
    (he : starEach (e :: es) X.env = (false, eval e X.env) :: starEach es X.env := by rfl) (hpl : (backTo pos (starEach es X.env)).any (·.1) = false := by rfl) : DE X (.Call (.Name x p) (e :: es) [] pos) (fun K => tCB (rOfB K op) (tas K)) (dCB op fa) := ⟨pe_callTy hc hg hm hv ha.pa hn hdb he hpl, den_cb denB_of ha.den⟩
theorem de_isi {x : Str} {p q : Pos} {T : String} (hg : Gl X "isinstance") (hm : X.mg "isinstance" = none) (gT : Gl X x) (mT : X.mg x = none) (hv : bootBuiltins x = some (.type T)) (he : DE X e te f) (hn : x ≠ "__name__" := by decide) (hdb : (x == ("__debug__" : Str)) = false := by decide)
    (h1 : starEach [e, .Name x q] X.env = (false, eval e X.env) :: starEach [.Name x q] X.env := by rfl) (h2 : starEach [.Name x q] X.env = (false, eval (.Name x q) X.env) :: starEach [] X.env := by rfl) (hpl : (backTo pos (starEach [.Name x q] X.env)).any (·.1) = false := by rfl) :
    DE X (.Call (.Name "isinstance" p) [e, .Name x q] [] pos) (fun K => tCB (rIsi K) (tCons (te K) (tCons (tC (.ty T)) tNil))) (dUn (opIsi T) f) :=
  ⟨pe_callB call_isi hg hm (by decide +kernel) (pa_cons he.pe (pa_cons (pe_bltn (v := .ty T) gT mT hv rfl hn hdb) pa_nil h2) h1) (by decide) (by decide) h1 hpl, den1_isi T he.den fun e0 h => ty_of e0 h⟩
/-- a def of the text, by its name -/
def Has (P : Program) (w : World) (K : PySem.W.Frag) (mg : Str → Option Value) (base : Heap) (k : Nat) (x : Str) (ps : List Str) (F : DFun) : Prop :=
  ∃ (fa : Addr) (fd : FuncData), mg x = some (.ref fa) ∧ PySem.W.keepIn K (.ref fa) = true ∧ Binds K fd ps [] ∧ XG.FnG P w K mg base CX0 k fa fd ps (spD K ps.length F)
end
end XN

set_option maxRecDepth 100000
set_option maxHeartbeats 4000000
/-! the rules by syntax: calls of defs, slices, statements, comprehensions, defs -/
namespace XN
open PySem PySem.Spec PyProof.Rows L2 Evl

/-- an end of a slice -/
def dNoP : SS → Option (Option Int × SS) := fun s => some (none, s)
def dPart (f : DF) : SS → Option (Option Int × SS) := fun s => (f s).bind fun p => match p.1 with
  | .d (.int i) => some (some i, p.2)
  | _ => none
def DenO (K : PySem.W.Frag) (to : TO) (f : SS → Option (Option Int × SS)) : Prop := ∀ (B : Option Addr) (Fr H0 : Hp) (s : SS) (σ : L2.St) (H : Hp) (o : Option Int) (s' : SS), Rel K B Fr H0 s σ H → f s = some (o, s') → ∀ Q : Option Int → Hp → Prop,
  (∀ H' H0', Ex H0 H0' → Rel K B Fr H0' s' σ H' → Q o H') → to σ H Q
structure DO (X : Cx) (e : Option Expr) (to : PySem.W.Frag → TO) (f : SS → Option (Option Int × SS)) : Prop where
  po : PO X e (to X.K)
  den : DenO X.K (to X.K) f
def dSl (f : DF) (lo hi : SS → Option (Option Int × SS)) : DF := fun s => (f s).bind fun p => (lo p.2).bind fun q => (hi q.2).bind fun w => (p.1.hold.dat w.2).bind fun x => (opSl x q.1 w.1).map fun z => (z.rv, w.2)
section
variable {X : Cx} {a b c e : Expr} {es : List Expr} {ta tb tc te : PySem.W.Frag → TE} {tt tu : PySem.W.Frag → TT} {tas : PySem.W.Frag → TA} {f g h : DF} {t u : DT} {fa : DA} {pos : Pos} {tl th : PySem.W.Frag → TO} {fl fh : SS → Option (Option Int × SS)}
theorem do_none : DO X none (fun _ => tNoPart) dNoP := ⟨po_none, by
  intro B Fr H0 s σ H o s' R e Q k
  obtain ⟨rfl, rfl⟩ := Prod.mk.inj (Option.some.inj e)
  exact k H H0 (Ex.refl _) R⟩
theorem do_some (h : DE X e te f) : DO X (some e) (fun K => tPart (te K)) (dPart f) := ⟨po_some h.pe, by
  intro B Fr H0 s σ H o s' R e Q k
  obtain ⟨⟨r, s1⟩, e1, e⟩ := bind_some e
  dsimp only at e
  split at e
  · obtain ⟨rfl, rfl⟩ := Prod.mk.inj (Option.some.inj e)
    refine h.den B Fr H0 s σ H _ s1 R e1 _ fun v H1 H01 x1 R1 q1 => ?_
    cases q1
    exact ⟨_, rfl, k H1 H01 x1 R1⟩
  · cases e⟩
theorem den_sl {K : PySem.W.Frag} {te : TE} {tl th : TO} {rr : V → Option Int → Option Int → Hp → VK → Prop} (hr : rr = rOfS K opSl) (ha : DenE K te f) (hl : DenO K tl fl) (hh : DenO K th fh) : DenE K (tSl rr te tl th) (dSl f fl fh) := by
  subst hr
  intro B Fr H0 s σ H r s' R e Q k
  obtain ⟨⟨r1, s1⟩, e1, e⟩ := bind_some e
  obtain ⟨⟨lo, s2⟩, e2, e⟩ := bind_some e
  obtain ⟨⟨hi, s3⟩, e3, e⟩ := bind_some e
  obtain ⟨x, e4, e⟩ := bind_some e
  obtain ⟨z, e5, e⟩ := map_some e
  obtain ⟨rfl, rfl⟩ := Prod.mk.inj e
  refine ha B Fr H0 s σ H r1 s1 R e1 _ fun v1 H1 H01 x1 R1 q1 => ?_
  obtain ⟨H02, x2, R2, q2⟩ := q1.hold R1
  refine hl B Fr H02 s1 σ H1 lo s2 R2 e2 _ fun H2 H03 x3 R3 => ?_
  refine hh B Fr H03 s2 σ H2 hi s3 R3 e3 _ fun H3 H04 x4 R4 => ?_
  exact ⟨H04, x, z, R4.e0, (q2.up (x3.trans x4)).dq R4 e4, e5, out_of R4 fun v H' H0' x5 R5 q5 => k v H' H0' (((x1.trans x2).trans (x3.trans x4)).trans x5) R5 q5⟩
theorem de_sl {lo hi : Option Expr} {p2 : Pos} (he : DE X e te f) (hl : DO X lo tl fl) (hh : DO X hi th fh) : DE X (.Subscript e (.Slice lo hi none p2) pos) (fun K => tSl (rOfS K opSl) (te K) (tl K) (th K)) (dSl f fl fh) := ⟨pe_slice sl_of he.pe hl.po hh.po, den_sl rfl he.den hl.den hh.den⟩
theorem de_call {x : Str} {p : Pos} {k : Nat} {ps : List Str} {F : DFun} (hf : Has X.prog X.w X.K X.mg X.base k x ps F) (hg : X.A.guards = some []) (hr : Room k X.A) (gl : Gl X x) (ha : DAs X (e :: es) tas fa) (hn : (e :: es).length = ps.length := by rfl)
    (hdb : (x == ("__debug__" : Str)) = false := by decide) (he : starEach (e :: es) X.env = (false, eval e X.env) :: starEach es X.env := by rfl) (hpl : (backTo pos (starEach es X.env)).any (·.1) = false := by rfl) :
    DE X (.Call (.Name x p) (e :: es) [] pos) (fun K => tCall (spD K ps.length F) [] E0 (tas K)) (dCall F fa) := by
  obtain ⟨af, fd, hm, hk, hb, FG⟩ := hf
  exact ⟨XG.pe_g FG hg hr gl hm hk hb pass0 ha.pa hdb he hpl, den_call ha.den fun s p h => (ha.len s p h).trans hn⟩

/-! ### statements -/
variable {ts us : PySem.W.Frag → TS} {fs gs : DS} {st : Stmt} {sts rest : List Stmt}
theorem dss_nil : DSs X [] (fun _ => tNext) dNx := ⟨pss_nil, den_nx⟩
theorem dss_one (h : DSt X st ts fs) : DSs X [st] ts fs := ⟨pss_one h.ps, h.den⟩
theorem dss_cons (h1 : DSt X st ts fs) (h2 : DSs X rest us gs) : DSs X (st :: rest) (fun K => tSeq (ts K) (us K)) (dSeq fs gs) := ⟨pss_cons h1.ps h2.ps, den_seq h1.den h2.den⟩
theorem ds_set (i : Nat) {x : Str} {pos' : Pos} (hN : X.N.Nodup) (he : DE X e te f) (hi : X.N[i]? = some x := by rfl) (hx : Loc X.env.scope x := by first | exact .inl rfl | exact .inr rfl) (hs : swapsWith e (some (.Name x pos')) pos.line X.env = pure false := by rfl)
    (hf : X.fn x = true ∨ X.env.scope.names.lookup x = some .local := by first | exact .inl rfl | exact .inr rfl) : DSt X (.Assign [.Name x pos'] e pos) (fun K => tAsg (te K) (gName i)) (dSet i f) := ⟨ps_set hN hi hx he.pe hs hf, den_set he.den⟩
theorem ds_drop (he : DE X e te f) (hs : swapsWith e none pos.line X.env = pure false := by rfl) : DSt X (.Expr e pos) (fun K => tDrop (te K)) (dDrop f) := ⟨ps_expr he.pe hs, den_drop he.den⟩
theorem ds_ret (he : DE X e te f) : DSt X (.Return (some e) pos) (fun K => tRet (te K)) (dRet f) := ⟨ps_ret he.pe, den_ret he.den⟩
theorem ds_retN : DSt X (.Return none pos) (fun _ => tRetN) dRetN := ⟨ps_retN, den_retN⟩
theorem ds_if {p q : List Stmt} (hc : DTe X c tt t) (hp : DSs X p ts fs) (hq : DSs X q us gs) : DSt X (.If c p q pos) (fun K => tIfS (tt K) (ts K) (us K)) (dIfS t fs gs) := ⟨ps_if hc.pt hp.ps hq.ps, den_ifS hc.den hp.den hq.den⟩
theorem ds_break : DSt X (.Break pos) (fun _ => tBreak) dBk := ⟨ps_break, den_bk⟩
theorem ds_continue : DSt X (.Continue pos) (fun _ => tCont) dCt := ⟨ps_continue, den_ct⟩
theorem ds_pass : DSt X (.Pass pos) (fun _ => tNext) dNx := ⟨ps_pass, den_nx⟩
theorem ds_doc {x : Str} {j p} : DSt X (.Expr (.Constant (.str x) j p) pos) (fun _ => tNext) dNx := ⟨ps_doc, den_nx⟩
theorem dg_name (i : Nat) {x : Str} (hN : X.N.Nodup) (hi : X.N[i]? = some x := by rfl) (hx : Loc X.env.scope x := by first | exact .inl rfl | exact .inr rfl) (hf : X.fn x = true ∨ X.env.scope.names.lookup x = some .local := by first | exact .inl rfl | exact .inr rfl) : DGt X (.Name x pos) (fun _ => gName i) (dName i) := ⟨pg_name hN hi hx hf, den_name i⟩
theorem di_any {tg : Expr} (h : DE X e te f) : DIt X tg e (fun K => iAny K (te K)) (dItems f) := ⟨pi_any h.pe, den_items h.den⟩
theorem di_rng1 {tg : Expr} {p : Pos} (hg : Gl X "range") (hm : X.mg "range" = none) (ha : DAs X [a] tas fa) (hs : starEach [a] X.env = [(false, eval a X.env)] := by rfl) : DIt X tg (.Call (.Name "range" p) [a] [] pos) (fun K => iRng1 (tas K)) (dRng1 fa) := ⟨pi_range1 hg hm ha.pa hs, den_rng1 ha.den⟩
theorem di_rng2 {tg : Expr} {p : Pos} (hg : Gl X "range") (hm : X.mg "range" = none) (ha : DAs X [a, b] tas fa) (hs : starEach [a, b] X.env = [(false, eval a X.env), (false, eval b X.env)] := by rfl) (hs2 : starEach [b] X.env = [(false, eval b X.env)] := by rfl) :
    DIt X tg (.Call (.Name "range" p) [a, b] [] pos) (fun K => iRng2 (tas K)) (dRng2 fa) := ⟨pi_range2 hg hm ha.pa hs hs2, den_rng2 ha.den⟩
theorem ds_for {tg iter : Expr} {body : List Stmt} {wi : PySem.W.Frag → TI} {tgt : PySem.W.Frag → TG} {fi : DI} {fg : DG} (hp : PassesOwn (model X.prog X.w) X.A X.env X.xe) (hc : X.calm = true) (hi : DIt X tg iter wi fi) (hg : DGt X tg tgt fg) (hb : DSs X body ts fs)
    (hs : ∀ x, foldedSetIterable iter X.env x = pure x := by intro _; rfl) : DSt X (.For tg iter body [] pos) (fun K => tFor (wi K) (tgt K) (ts K)) (dFor fi fg fs) := ⟨ps_for hp hc hi.pi hg.pg hb.ps hs, den_for hi.den hg.den hb.den⟩
theorem ds_while {body : List Stmt} (hp : PassesOwn (model X.prog X.w) X.A X.env X.xe) (hc : DTe X c tt t) (hb : DSs X body ts fs) : DSt X (.While c body [] pos) (fun K => tWhile (tt K) (ts K)) (dWhile t fs) := ⟨ps_while hp hc.pt hb.ps, den_while hc.den hb.den⟩
theorem ds_app (i : Nat) {x : Str} {p apos cpos : Pos} (he : DE X e te f) (hN : X.N[i]? = some x := by rfl) (hv : Vis X.env.scope x := by first | exact Or.inl rfl | exact Or.inr (Or.inl rfl) | exact Or.inr (Or.inr rfl)) (hd : (x == ("__debug__" : Str)) = false := by decide)
    (hcd : (x == ("__classdict__" : Str)) = false := by decide) (hbase : attributeBase (.Name x p) "append" X.env (eval (.Name x p) X.env) = eval (.Name x p) X.env := by rfl)
    (hfew : ((backTo cpos (starEach [e] X.env)).all (fun x => !x.1) && (backToKw cpos (keywordEach [] X.env)).all (fun x => x.1.isSome) && decide (([e] : List Expr).length + ([] : List Keyword).length + (if ([] : List Keyword).isEmpty then 0 else 1) < 30)) = true := by rfl)
    (hline : (apos.endLine == cpos.line) = true := by rfl) (h1 : starEach [e] X.env = (false, eval e X.env) :: starEach [] X.env := by rfl) (hpl : (backTo cpos (starEach [] X.env)).any (·.1) = false := by rfl)
    (hs : swapsWith (.Call (.Attribute (.Name x p) "append" apos) [e] [] cpos) none pos.line X.env = pure false := by rfl) :
    DSt X (.Expr (.Call (.Attribute (.Name x p) "append" apos) [e] [] cpos) pos) (fun K => tDrop (tBM K "list" rAppend (tVar i) (tCons (te K) tNil))) (dApp i f) :=
  ⟨ps_expr (pe_bm PySem.F.plainAttrs_list PySem.F.slot_list_append PySem.F.type_list_append mt_append (pv i hN hv hd hcd) (pa_cons he.pe pa_nil h1) hbase hfew hline h1 hpl) hs, den_app he.den⟩
theorem de_pop (i : Nat) {x : Str} {p apos cpos : Pos} (he : DE X e te f) (hN : X.N[i]? = some x := by rfl) (hv : Vis X.env.scope x := by first | exact Or.inl rfl | exact Or.inr (Or.inl rfl) | exact Or.inr (Or.inr rfl)) (hd : (x == ("__debug__" : Str)) = false := by decide)
    (hcd : (x == ("__classdict__" : Str)) = false := by decide) (hbase : attributeBase (.Name x p) "pop" X.env (eval (.Name x p) X.env) = eval (.Name x p) X.env := by rfl)
    (hfew : ((backTo cpos (starEach [e] X.env)).all (fun x => !x.1) && (backToKw cpos (keywordEach [] X.env)).all (fun x => x.1.isSome) && decide (([e] : List Expr).length + ([] : List Keyword).length + (if ([] : List Keyword).isEmpty then 0 else 1) < 30)) = true := by rfl)
    (hline : (apos.endLine == cpos.line) = true := by rfl) (h1 : starEach [e] X.env = (false, eval e X.env) :: starEach [] X.env := by rfl) (hpl : (backTo cpos (starEach [] X.env)).any (·.1) = false := by rfl) :
    DE X (.Call (.Attribute (.Name x p) "pop" apos) [e] [] cpos) (fun K => tBM K "list" rPopAt (tVar i) (tCons (te K) tNil)) (dPop i f) :=
  ⟨pe_bm PySem.F.plainAttrs_list PySem.F.slot_list_pop PySem.F.type_list_pop mt_popAt (pv i hN hv hd hcd) (pa_cons he.pe pa_nil h1) hbase hfew hline h1 hpl, den_pop he.den⟩
theorem ds_box (i j : Nat) {x : Str} {p p1 p2 : Pos} {jj} (he : DE X e te f) (hN : X.N[i]? = some x := by rfl) (hv : Vis X.env.scope x := by first | exact Or.inl rfl | exact Or.inr (Or.inl rfl) | exact Or.inr (Or.inr rfl)) (hd : (x == ("__debug__" : Str)) = false := by decide)
    (hcd : (x == ("__classdict__" : Str)) = false := by decide)
    (ha : ∀ v, assign (.Subscript (.Name x p) (.Constant (.int j) jj p1) p2) X.env v = (do
      let ov ← holding [v] (eval (.Name x p) X.env)
      let iv ← holding [v, ov] (eval (.Constant (.int j) jj p1) X.env)
      standAt p2
      holding [v, ov, iv] (setItem ov iv v)
      release [v, ov, iv] []) := by intro _; rfl)
    (hs : swapsWithSole [.Subscript (.Name x p) (.Constant (.int j) jj p1) p2] e pos.line X.env = pure false := by rfl) (hw : swappedStores [.Subscript (.Name x p) (.Constant (.int j) jj p1) p2] e X.env = pure none := by rfl)
    (h1 : (assignEach [.Subscript (.Name x p) (.Constant (.int j) jj p1) p2] X.env).map (·.2) = [assign (.Subscript (.Name x p) (.Constant (.int j) jj p1) p2) X.env] := by rfl) :
    DSt X (.Assign [.Subscript (.Name x p) (.Constant (.int j) jj p1) p2] e pos) (fun K => tAsg (te K) (gSub (tVar i) (tC (.int j)) rSetL)) (dBoxSet i j f) :=
  ⟨ps_asg he.pe (pg_sub (pv i hN hv hd hcd) pe_int set_list ha) hs hw h1, den_boxSet (den_c fun _ => .int _) he.den⟩
end
end XN

set_option maxRecDepth 100000
set_option maxHeartbeats 4000000
/-! comprehensions by syntax; a, b = x, y; a def from its body -/
namespace XN
open PySem PySem.Spec PyProof.Rows L2 Evl

structure DIo' (X : Cx) (vs : List Nat) (tg iter : Expr) (wi : PySem.W.Frag → TI) (f : DIo) : Prop where
  pi : PI X tg iter (wi X.K)
  den : DenIo X.K vs (wi X.K) f
structure DGw (X : Cx) (vs : List Nat) (tg : Expr) (g : PySem.W.Frag → TG) (f : DG) : Prop where
  pg : PG X tg (g X.K)
  den : DenGw X.K vs (g X.K) f
structure DTs (X : Cx) (es : List Expr) (tt : PySem.W.Frag → TT) (f : DT) : Prop where
  pts : PTs X es (tt X.K)
  den : DenT X.K (tt X.K) f
/-- a result for a slot: data, or a new list -/
def RV.solid : RV → Option SV
  | .d x => some (.d x)
  | .fresh xs => some (.own xs)
  | _ => none
def dPar (i j : Nat) (f g : DF) : DS := fun s => (f s).bind fun p => (g p.2).bind fun q => p.1.solid.bind fun u => q.1.solid.bind fun w => if i ≠ j ∧ i < q.2.e.length ∧ j < q.2.e.length then some (.nx, ⟨(q.2.e.set i (some u)).set j (some w), q.2.b⟩) else none
section
variable {X : Cx} {a b c e : Expr} {es : List Expr} {ta tb tc te : PySem.W.Frag → TE} {tt tu : PySem.W.Frag → TT} {tas : PySem.W.Frag → TA} {f g h : DF} {t u : DT} {fa : DA} {pos : Pos} {ts us : PySem.W.Frag → TS} {fs gs : DS} {st : Stmt} {sts rest : List Stmt}
theorem dio_any {vs : List Nat} {tg : Expr} (h : DE X e te f) : DIo' X vs tg e (fun K => iAny K (te K)) (dIo (dItems f)) := ⟨pi_any h.pe, den_io vs (den_items h.den)⟩
theorem dio_v {vs : List Nat} {tg : Expr} (i : Nat) {x : Str} (hN : X.N[i]? = some x := by rfl) (hv : Vis X.env.scope x := by first | exact Or.inl rfl | exact Or.inr (Or.inl rfl) | exact Or.inr (Or.inr rfl)) (hd : (x == ("__debug__" : Str)) = false := by decide)
    (hcd : (x == ("__classdict__" : Str)) = false := by decide) : DIo' X vs tg (.Name x pos) (fun K => iAny K (tVar i)) (dItV vs i) := ⟨pi_any (pv i hN hv hd hcd), den_itv vs i⟩
theorem dio_of {vs : List Nat} {tg : Expr} {wi : PySem.W.Frag → TI} {fi : DI} (h : DIt X tg e wi fi) : DIo' X vs tg e wi (dIo fi) := ⟨h.pi, den_io vs h.den⟩
theorem dgw_name {vs : List Nat} (i : Nat) {x : Str} (hN : X.N.Nodup) (hm : i ∈ vs := by decide) (hi : X.N[i]? = some x := by rfl) (hx : Loc X.env.scope x := by first | exact .inl rfl | exact .inr rfl) (hf : X.fn x = true ∨ X.env.scope.names.lookup x = some .local := by first | exact .inl rfl | exact .inr rfl) : DGw X vs (.Name x pos) (fun _ => gName i) (dName i) := ⟨pg_name hN hi hx hf, den_nameW hm⟩
theorem dts_nil : DTs X [] (fun _ => tYes) dYes := ⟨pts_nil, den_yes⟩
theorem dts_one (h : DTe X c tt t) : DTs X [c] tt t := ⟨pts_one h.pt, h.den⟩
theorem de_lc {elt tg iter : Expr} {ifs : List Expr} {scope : Scope} {wi : PySem.W.Frag → TI} {tgt : PySem.W.Frag → TG} {fi : DIo} {fg : DG} (own : List (Str × Nat)) (hc : X.calm = true) (hN : X.N.Nodup) (hi : DIo' X (own.map (·.2)) tg iter wi fi) (ok : BlkOk X.N X.env.scope scope own)
    (hg : ∀ (s : Shared) (H : Hp) (C : Addr) (cl : List (Str × Addr)) (fp : List Addr), DGw (X.blk s H scope (compEnvC scope cl C X.env) fp) (own.map (·.2)) tg tgt fg)
    (ht : ∀ (s : Shared) (H : Hp) (C : Addr) (cl : List (Str × Addr)) (fp : List Addr), DTs (X.blk s H scope (compEnvC scope cl C X.env) fp) ifs tt t)
    (he : ∀ (s : Shared) (H : Hp) (C : Addr) (cl : List (Str × Addr)) (fp : List Addr), DE (X.blk s H scope (compEnvC scope cl C X.env) fp) elt te f) (hs : ∀ x, foldedSetIterable iter X.env x = pure x := by intro _; rfl) :
    DE X (.ListComp elt [⟨tg, iter, ifs, 0⟩] scope pos) (fun K => tLc (wi K) (tgt K) (tt K) (te K) (own.map (·.2))) (dLc (own.map (·.2)) fi fg t f) := by
  exact ⟨pe_lc hc hN hi.pi ok (fun s H C cl fp => (hg s H C cl fp).pg) (fun s H C cl fp => (ht s H C cl fp).pts) (fun s H C cl fp => (he s H C cl fp).pe) hs,
    den_lc hi.den (hg X.s_0 X.H_0 0 [] []).den (ht X.s_0 X.H_0 0 [] []).den (he X.s_0 X.H_0 0 [] []).den⟩
theorem ds_setLc (i : Nat) {y : Str} {py spos : Pos} {elt tg iter : Expr} {ifs : List Expr} {scope : Scope} {wi : PySem.W.Frag → TI} {tgt : PySem.W.Frag → TG} {fi : DIo} {fg : DG} (own : List (Str × Nat)) (hc : X.calm = true) (hN : X.N.Nodup) (hi : DIo' X (own.map (·.2)) tg iter wi fi) (ok : BlkOk X.N X.env.scope scope own)
    (hg : ∀ (s : Shared) (H : Hp) (C : Addr) (cl : List (Str × Addr)) (fp : List Addr), DGw (X.blk s H scope (compEnvC scope cl C X.env) fp) (own.map (·.2)) tg tgt fg)
    (ht : ∀ (s : Shared) (H : Hp) (C : Addr) (cl : List (Str × Addr)) (fp : List Addr), DTs (X.blk s H scope (compEnvC scope cl C X.env) fp) ifs tt t)
    (he : ∀ (s : Shared) (H : Hp) (C : Addr) (cl : List (Str × Addr)) (fp : List Addr), DE (X.blk s H scope (compEnvC scope cl C X.env) fp) elt te f)
    (hy : X.N[i]? = some y := by rfl) (hyl : X.env.scope.names.lookup y = some .local := by rfl) (hsw : swapsWith (.ListComp elt [⟨tg, iter, ifs, 0⟩] scope pos) (some (.Name y py)) spos.line X.env = pure true := by exact sw_true rfl rfl rfl (by decide +kernel))
    (hs : ∀ x, foldedSetIterable iter X.env x = pure x := by intro _; rfl) :
    DSt X (.Assign [.Name y py] (.ListComp elt [⟨tg, iter, ifs, 0⟩] scope pos) spos) (fun K => tAsg (tLc (wi K) (tgt K) (tt K) (te K) (own.map (·.2))) (gName i)) (dSet i (dLc (own.map (·.2)) fi fg t f)) := by
  exact ⟨ps_setLc hc hN hy hyl hsw hi.pi ok (fun s H C cl fp => (hg s H C cl fp).pg) (fun s H C cl fp => (ht s H C cl fp).pts) (fun s H C cl fp => (he s H C cl fp).pe) hs,
    den_set (den_lc hi.den (hg X.s_0 X.H_0 0 [] []).den (ht X.s_0 X.H_0 0 [] []).den (he X.s_0 X.H_0 0 [] []).den)⟩
end
section
variable {K : PySem.W.Frag} {B : Option Addr} {Fr H0 H0' H H' : Hp} {s s' : SS} {σ : L2.St} {v w : V} {r : RV} {ta tb te : TE} {f g : DF}
/-- a new list that no one knows yet becomes one of others' -/
theorem Rel.protect {p : Addr} {o : HO} (R : Rel K B Fr H0 s σ H) (h0 : H0 p = none) (hf : Fr p = none) (hb : B ≠ some p) (hh : H p = some o) (hs : ∀ (i : Nat) ys, s.e[i]? = some (some (.own ys)) → σ[i]? ≠ some (some (.ref p))) : Rel K B (upd Fr p o) H0 s σ H := by
  have up : ∀ q, q ≠ p → Fr q = none → upd Fr p o q = none := fun q n e => by rw [upd_ne n]; exact e
  refine { e0 := R.e0, ef := fun q u hq => ?_, dj := fun q u hq => ?_, box := fun q hq => ?_, len := R.len, bb := R.bb, sl := fun i u hi => ?_, ne := R.ne }
  · by_cases z : q = p
    · subst z
      rw [upd_same] at hq
      rw [← hq]
      exact hh
    · rw [upd_ne z] at hq
      exact R.ef q u hq
  · by_cases z : q = p
    · rw [z]; exact h0
    · rw [upd_ne z] at hq
      exact R.dj q u hq
  · obtain ⟨a, b, c⟩ := R.box q hq
    exact ⟨a, up q (fun z => hb (by rw [hq, z])) b, c⟩
  · cases u with
    | own xs =>
      obtain ⟨q, vs, hu, h1, h2, h3, h4, h5⟩ := R.sl i _ hi
      exact ⟨q, vs, hu, h1, up q (fun z => hs i xs hi (by rw [hu, z])) h2, h3, h4, h5⟩
    | d x => exact R.sl i _ hi
    | bx => exact R.sl i _ hi
/-- what a solid result is, once it stands in a slot -/
def Sol (K : PySem.W.Frag) (B : Option Addr) (Fr H0 H : Hp) (s : SS) (σ : L2.St) (v : V) (u : SV) : Prop := SlotIs K B Fr H0 H (some (some v)) u ∧ ∀ xs, u = .own xs → ∀ (i : Nat) ys, s.e[i]? = some (some (.own ys)) → σ[i]? ≠ some (some v)
theorem Res.sol {u : SV} (h : Res K B Fr H0 s σ H v r) (e : r.solid = some u) : Sol K B Fr H0 H s σ v u := by
  cases r with
  | d x =>
    obtain rfl := Option.some.inj e
    exact ⟨⟨v, rfl, h⟩, fun _ z => nomatch z⟩
  | fresh xs =>
    obtain rfl := Option.some.inj e
    obtain ⟨p, vs, rfl, h1, h2, h3, h4, h5, h6⟩ := h
    exact ⟨⟨p, vs, rfl, h1, h2, h3, h4, h5⟩, fun _ _ => h6⟩
  | sl i => cases e
  | bx => cases e
theorem pair_eval (ha : DenE K ta f) (hb : DenE K tb g) {s s1 s2 : SS} {r1 r2 : RV} {u1 u2 : SV} (R : Rel K B Fr H0 s σ H) (e1 : f s = some (r1, s1)) (e2 : g s1 = some (r2, s2)) (e3 : r1.solid = some u1) (e4 : r2.solid = some u2) {Q : List V → Hp → Prop}
    (k : ∀ v w H' H0', Ex H0 H0' → Rel K B Fr H0' s2 σ H' → Sol K B Fr H0' H' s2 σ v u1 → Sol K B Fr H0' H' s2 σ w u2 → (∀ xs ys, u1 = .own xs → u2 = .own ys → v ≠ w) → Q [v, w] H') : tCons ta (tCons tb tNil) σ H Q := by
  refine ha B Fr H0 s σ H r1 s1 R e1 _ fun v H1 H01 x1 R1 q1 => ?_
  cases r1 with
  | d x =>
    obtain rfl := Option.some.inj e3
    refine hb B Fr H01 s1 σ H1 r2 s2 R1 e2 _ fun w H2 H02 x2 R2 q2 => ?_
    exact k v w H2 H02 (x1.trans x2) R2 ⟨⟨v, rfl, dp_ex x2 _ _ q1⟩, fun _ z => nomatch z⟩ (q2.sol e4) fun _ _ z => nomatch z
  | fresh xs =>
    obtain rfl := Option.some.inj e3
    obtain ⟨p, vs, rfl, h1, h2, h3, h4, h5, h6⟩ := q1
    refine hb B _ H01 s1 σ H1 r2 s2 (R1.protect h1 h2 h3 h4 h6) e2 _ fun w H2 H02 x2 R2 q2 => ?_
    obtain ⟨R3, a0, ab, ah, as⟩ := R2.unframe h2
    have sol2 := q2.sol e4
    have fr : ∀ q, upd Fr p (.lst vs) q = none → q ≠ p ∧ Fr q = none := fun q e => by
      by_cases z : q = p
      · rw [z, upd_same] at e
        cases e
      · rw [upd_ne z] at e
        exact ⟨z, e⟩
    refine k (.ref p) w H2 H02 (x1.trans x2) R3 ⟨⟨p, vs, rfl, a0, h2, ab, ah, dpa_ex x2 _ _ h5⟩, fun _ _ => as⟩ ⟨?_, sol2.2⟩ fun xs ys z1 z2 z => ?_
    · cases u2 with
      | d x => exact sol2.1
      | own ys =>
        obtain ⟨q, us, hq, b0, b1, b2, b3, b4⟩ := sol2.1
        exact ⟨q, us, hq, b0, (fr q b1).2, b2, b3, b4⟩
      | bx => exact sol2.1
    · subst z2
      obtain ⟨q, us, hq, b0, b1, b2, b3, b4⟩ := sol2.1
      cases hq
      cases z
      exact (fr _ b1).1 rfl
  | sl i => cases e3
  | bx => cases e3
theorem par_end {i j : Nat} {u1 u2 : SV} (R : Rel K B Fr H0 s σ H) (h1 : Sol K B Fr H0 H s σ v u1) (h2 : Sol K B Fr H0 H s σ w u2) (hn : ∀ xs ys, u1 = .own xs → u2 = .own ys → v ≠ w) (hl : i ≠ j ∧ i < s.e.length ∧ j < s.e.length) :
    Rel K B Fr H0 ⟨(s.e.set i (some u1)).set j (some u2), s.b⟩ ((σ.set i (some v)).set j (some w)) H := by
  have R1 := R.putW (i := i) (by rw [← R.len]; exact hl.2.1) h1.1 h1.2
  refine Rel.putW (s := ⟨s.e.set i (some u1), s.b⟩) R1 (by rw [List.length_set, ← R.len]; exact hl.2.2) h2.1 fun xs z k ys hk hq => ?_
  have hk : (s.e.set i (some u1))[k]? = some (some (.own ys)) := hk
  by_cases y : i = k
  · rw [y, List.getElem?_set_self (by rw [← y]; exact hl.2.1)] at hk
    rw [y, List.getElem?_set_self (by rw [← y, ← R.len]; exact hl.2.1)] at hq
    cases hk
    cases hq
    exact hn _ _ rfl z rfl
  · rw [List.getElem?_set_ne y] at hk hq
    exact h2.2 xs z k ys hk hq
theorem den_par {i j : Nat} (ha : DenE K ta f) (hb : DenE K tb g) : DenS K (tPar i j (tCons ta (tCons tb tNil))) (dPar i j f g) := by
  intro B Fr H0 s σ H o s' R e D k
  obtain ⟨⟨r1, s1⟩, e1, e⟩ := bind_some e
  obtain ⟨⟨r2, s2⟩, e2, e⟩ := bind_some e
  obtain ⟨u1, e3, e⟩ := bind_some e
  obtain ⟨u2, e4, e⟩ := bind_some e
  dsimp only at e
  split at e
  · rename_i hl
    obtain ⟨rfl, rfl⟩ := Prod.mk.inj (Option.some.inj e)
    exact pair_eval ha hb R e1 e2 e3 e4 fun v w H1 H01 x1 R1 h1 h2 hn => ⟨v, w, rfl, k _ H1 H01 x1 (par_end R1 h1 h2 hn hl)⟩
  · cases e
theorem den_parT {i j : Nat} (ha : DenE K ta f) (hb : DenE K tb g) : DenS K (tAsg (tTup (tCons ta (tCons tb tNil))) (gTup K 2 (gCons (gName i) (gCons (gName j) gNil)))) (dPar i j f g) := by
  intro B Fr H0 s σ H o s' R e D k
  obtain ⟨⟨r1, s1⟩, e1, e⟩ := bind_some e
  obtain ⟨⟨r2, s2⟩, e2, e⟩ := bind_some e
  obtain ⟨u1, e3, e⟩ := bind_some e
  obtain ⟨u2, e4, e⟩ := bind_some e
  dsimp only at e
  split at e
  · rename_i hl
    obtain ⟨rfl, rfl⟩ := Prod.mk.inj (Option.some.inj e)
    show tCons ta (tCons tb tNil) σ H fun xs H1 => xs.length ≤ sizeLine ∧ ∀ p, H1 p = none → gTup K 2 (gCons (gName i) (gCons (gName j) gNil)) (.ref p) σ (upd H1 p (.tup xs)) D.nx
    refine pair_eval ha hb R e1 e2 e3 e4 fun v w H1 H01 x1 R1 h1 h2 hn => ⟨sz_of (by show 2 ≤ 100000; decide), fun p hp => ?_⟩
    have up : ∀ {x : V} {u : SV}, Sol K B Fr H01 H1 s2 σ x u → Sol K B Fr H01 (upd H1 p (.tup [v, w])) s2 σ x u := fun {x u} h => by
      refine ⟨?_, h.2⟩
      cases u with
      | own xs =>
        obtain ⟨q, us, hq, b0, b1, b2, b3, b4⟩ := h.1
        exact ⟨q, us, hq, b0, b1, b2, by rw [upd_ne (ne_of_none b3 hp)]; exact b3, b4⟩
      | d x => exact h.1
      | bx => exact h.1
    exact ⟨p, [v, w], rfl, st_of upd_same, rfl, v, [w], rfl, w, [], rfl, rfl, k _ _ H01 x1 (par_end (R1.new hp) (up h1) (up h2) hn hl)⟩
  · cases e
end
section
variable {X : Cx} {a b : Expr} {ta tb : PySem.W.Frag → TE} {f g : DF} {pos : Pos}
theorem ds_par (i j : Nat) {x y : Str} {px py pt : Pos} {kt k2 pt2} (hc : X.calm = true) (hN : X.N.Nodup) (ha : DE X a ta f) (hb : DE X b tb g) (hi : X.N[i]? = some x := by rfl) (hj : X.N[j]? = some y := by rfl) (hij : i ≠ j := by decide)
    (hx : X.env.scope.names.lookup x = some .local := by rfl) (hy : X.env.scope.names.lookup y = some .local := by rfl)
    (h1 : starEach [a, b] X.env = (false, eval a X.env) :: starEach [b] X.env := by rfl) (h2 : starEach [b] X.env = (false, eval b X.env) :: starEach [] X.env := by rfl)
    (hw : swappedStores [.Tuple [.Name x px, .Name y py] kt pt] (.Tuple [a, b] k2 pt2) X.env = pure (some [x, y]) := by rfl)
    (hs : swapsWithSole [.Tuple [.Name x px, .Name y py] kt pt] (.Tuple [a, b] k2 pt2) pos.line X.env = pure false := by rfl) :
    DSt X (.Assign [.Tuple [.Name x px, .Name y py] kt pt] (.Tuple [a, b] k2 pt2) pos) (fun K => tPar i j (tCons (ta K) (tCons (tb K) tNil))) (dPar i j f g) :=
  ⟨ps_par hc hN hi hj hij hx hy (pa_cons ha.pe (pa_cons hb.pe pa_nil h2) h1) hw hs, den_par ha.den hb.den⟩
theorem ds_parT (i j : Nat) {x y : Str} {px py pt : Pos} {kt k2 pt2} (hc : X.calm = true) (hN : X.N.Nodup) (ha : DE X a ta f) (hb : DE X b tb g) (hi : X.N[i]? = some x := by rfl) (hj : X.N[j]? = some y := by rfl)
    (hx : Loc X.env.scope x := by first | exact .inl rfl | exact .inr rfl) (hy : Loc X.env.scope y := by first | exact .inl rfl | exact .inr rfl)
    (fx : X.fn x = true ∨ X.env.scope.names.lookup x = some .local := by first | exact .inl rfl | exact .inr rfl) (fy : X.fn y = true ∨ X.env.scope.names.lookup y = some .local := by first | exact .inl rfl | exact .inr rfl)
    (h1 : starEach [a, b] X.env = (false, eval a X.env) :: starEach [b] X.env := by rfl) (h2 : starEach [b] X.env = (false, eval b X.env) :: starEach [] X.env := by rfl)
    (a1 : (assignEach [.Name x px, .Name y py] X.env).map (·.2) = assign (.Name x px) X.env :: (assignEach [.Name y py] X.env).map (·.2) := by rfl) (a2 : (assignEach [.Name y py] X.env).map (·.2) = assign (.Name y py) X.env :: (assignEach [] X.env).map (·.2) := by rfl)
    (hn : (assignEach [.Name x px, .Name y py] X.env).length = 2 := by rfl) (hst : (assignEach [.Name x px, .Name y py] X.env).findIdx? (·.1) = none := by rfl)
    (hs : swapsWithSole [.Tuple [.Name x px, .Name y py] kt pt] (.Tuple [a, b] k2 pt2) pos.line X.env = pure false := by rfl) (hw : swappedStores [.Tuple [.Name x px, .Name y py] kt pt] (.Tuple [a, b] k2 pt2) X.env = pure none := by rfl)
    (h3 : (assignEach [.Tuple [.Name x px, .Name y py] kt pt] X.env).map (·.2) = [assign (.Tuple [.Name x px, .Name y py] kt pt) X.env] := by rfl) :
    DSt X (.Assign [.Tuple [.Name x px, .Name y py] kt pt] (.Tuple [a, b] k2 pt2) pos) (fun K => tAsg (tTup (tCons (ta K) (tCons (tb K) tNil))) (gTup K 2 (gCons (gName i) (gCons (gName j) gNil)))) (dPar i j f g) :=
  ⟨ps_asg (pe_tup (pa_cons ha.pe (pa_cons hb.pe pa_nil h2) h1)) (pg_tup hc (pgs_cons (pg_name hN hi hx fx) (pgs_cons (pg_name hN hj hy fy) pgs_nil a2) a1) hn hst) hs hw h3, den_parT ha.den hb.den⟩
end
/-! ### a def from its body -/
theorem has_def {P : Program} {w : World} {K : PySem.W.Frag} {mg : Str → Option Value} {base : Heap} {k m : Nat} {x : Str} {qual : Str} {stm : Stmt} {fa : Addr} {fd : FuncData} {N ps : List Str} {g : DS} (F : Fun K x qual stm fa fd) (hm : mg x = some (.ref fa)) (hb : Binds K fd ps []) (S : FnScope N ps (defScope stm)) (hN : N.length = ps.length + m)
    (body : ∀ (cdv : Value) (A : Around) (outer : List Env) (s : Shared) (H : Hp) (E : XK), A.guards = some [] → Room k (A.deeper (envOfC qual (defScope stm) s.heap.objs.size fa cdv)) → ∃ ts, DSs (cxOf CX0 P w K mg base N qual (defScope stm) fa cdv A outer s H E).nox (defBody stm) ts g) :
    Has P w K mg base (k + 1) x ps (defOf m g) := by
  refine ⟨fa, fd, hm, F.kp, hb, XG.fun_g F S (fun vs H Q E h => ?_) fun cdv A outer s H vs Q E hg hr h => ?_⟩
  · obtain ⟨B, Fr, H0, as, b, r, b', R, hn, _⟩ := h
    exact hn
  · obtain ⟨ts, D⟩ := body cdv A outer s H E hg hr
    refine ⟨ts K, D.ps, ?_⟩
    have hn : vs.length = ps.length := by
      obtain ⟨B, Fr, H0, as, b, r, b', R, hn, _⟩ := h
      exact hn
    have e : L2.start N vs = vs.map some ++ List.replicate m none := by
      unfold L2.start
      rw [hN, hn, Nat.add_sub_cancel_left]
    rw [e]
    exact den_def (E := E) D.den h
end XN

set_option maxRecDepth 100000
set_option maxHeartbeats 4000000
namespace XN
open PySem PySem.Spec PyProof.Rows L2 Evl
/-- the built-in names that no one has stored -/
structure Bl (mg : Str → Option Value) : Prop where
  len : mg "len" = none
  range : mg "range" = none
  sorted : mg "sorted" = none
  set : mg "set" = none
  isinstance : mg "isinstance" = none
  abs : mg "abs" = none
  max : mg "max" = none
  min : mg "min" = none
  repr : mg "repr" = none
  any : mg "any" = none
  all : mg "all" = none
  int_ : mg "int" = none
  str_ : mg "str" = none
  list_ : mg "list" = none
  tuple_ : mg "tuple" = none
  bool_ : mg "bool" = none
end XN

set_option maxRecDepth 100000
set_option maxHeartbeats 4000000
/-! sorted(set(e)) on data -/
namespace XN
open PySem PySem.Spec PyProof.Rows PySem.W L2 Evl XD

/-! ### two rows in order with the same members -/
theorem sorted_unique {α : Type} {le : α → α → Bool} : ∀ {xs ys : List α}, (∀ a ∈ xs, ∀ b ∈ xs, le a b = true → le b a = true → a = b) → xs.Perm ys → xs.Pairwise (fun a b => le a b = true) → ys.Pairwise (fun a b => le a b = true) → xs = ys
  | [], ys, _, p, _, _ => (List.Perm.nil_eq p)
  | x :: xs, [], _, p, _, _ => absurd p (by simp)
  | x :: xs, y :: ys, an, p, hx, hy => by
    have e : x = y := by
      have m1 : x ∈ y :: ys := p.mem_iff.mp (List.mem_cons_self ..)
      have m2 : y ∈ x :: xs := p.mem_iff.mpr (List.mem_cons_self ..)
      rcases List.mem_cons.mp m1 with e | m1
      · exact e
      · rcases List.mem_cons.mp m2 with e | m2'
        · exact e.symm
        · exact an x (List.mem_cons_self ..) y m2 ((List.pairwise_cons.mp hx).1 y m2') ((List.pairwise_cons.mp hy).1 x m1)
    subst e
    rw [sorted_unique (fun a ha b hb => an a (List.mem_cons_of_mem _ ha) b (List.mem_cons_of_mem _ hb)) (List.Perm.cons_inv p) (List.pairwise_cons.mp hx).2 (List.pairwise_cons.mp hy).2]
theorem dle_anti {a b : PyData} (h1 : XC.dle a b = true) (h2 : XC.dle b a = true) : keyToks a = keyToks b := by
  have e1 : lexLt itemOrd (keyToks b) (keyToks a) = false := by
    have : (!lexLt itemOrd (keyToks b) (keyToks a)) = true := h1
    simpa using this
  have e2 : lexLt itemOrd (keyToks a) (keyToks b) = false := by
    have : (!lexLt itemOrd (keyToks a) (keyToks b)) = true := h2
    simpa using this
  exact lex_total _ _ e2 e1
theorem toks_kD {a b : Key} (h : keyToks (kD a) = keyToks (kD b)) : a = b := by
  cases a with
  | inl i =>
    cases b with
    | inl j =>
      simp only [kD, keyToks, List.cons.injEq, Sum.inl.injEq, and_true] at h
      rw [h]
    | inr y => simp [kD, keyToks] at h
  | inr x =>
    cases b with
    | inl j => simp [kD, keyToks] at h
    | inr y =>
      simp only [kD, keyToks, List.cons.injEq, Sum.inr.injEq, and_true] at h
      rw [str_of_cps h]
theorem toks_one (a : Key) : ∃ t, keyToks (kD a) = [t] := by
  cases a with
  | inl i => exact ⟨.inl i, by simp [kD, keyToks]⟩
  | inr x => exact ⟨.inr x.cps.toList, by simp [kD, keyToks]⟩
theorem toks_all : ∀ {xs ys : List Key}, keyToksAll (xs.map kD) = keyToksAll (ys.map kD) → xs = ys
  | [], [], _ => rfl
  | [], y :: ys, h => by simp [keyToksAll] at h
  | x :: xs, [], h => by simp [keyToksAll] at h
  | x :: xs, y :: ys, h => by
    obtain ⟨t, ht⟩ := toks_one x
    obtain ⟨u, hu⟩ := toks_one y
    rw [List.map_cons, List.map_cons, toks_all_cons, toks_all_cons, ht, hu] at h
    simp only [List.cons_append, List.nil_append, List.cons.injEq, true_and] at h
    have e : x = y := toks_kD (by rw [ht, hu, h.1])
    rw [e, toks_all h.2]
theorem toks_tD {xs ys : List Key} (h : keyToks (tD xs) = keyToks (tD ys)) : xs = ys := toks_all (by simpa [tD, keyToks] using h)
theorem kD_inj {a b : Key} (h : kD a = kD b) : a = b := toks_kD (by rw [h])
theorem tD_inj {a b : List Key} (h : tD a = tD b) : a = b := toks_tD (by rw [h])
def undup {α : Type} [DecidableEq α] : List α → List α
  | [] => []
  | x :: xs => if x ∈ undup xs then undup xs else x :: undup xs
theorem mem_undup {α : Type} [DecidableEq α] {a : α} : ∀ {xs : List α}, a ∈ undup xs ↔ a ∈ xs
  | [] => Iff.rfl
  | x :: xs => by
    unfold undup
    split
    · rename_i h
      rw [mem_undup, List.mem_cons]
      exact ⟨.inr, fun m => m.elim (fun e => by rw [e]; exact mem_undup.mp h) id⟩
    · rw [List.mem_cons, List.mem_cons, mem_undup]
theorem nodup_undup {α : Type} [DecidableEq α] : ∀ (xs : List α), (undup xs).Nodup
  | [] => List.nodup_nil
  | x :: xs => by
    unfold undup
    split
    · exact nodup_undup xs
    · rename_i h
      exact List.nodup_cons.mpr ⟨h, nodup_undup xs⟩
theorem uniq_k {out ks : List Key} (nd : out.Nodup) (mem : ∀ k, k ∈ out ↔ k ∈ ks) (so : (out.map kD).Pairwise fun a b => XC.dle a b = true) : out.map kD = XC.srt ((undup ks).map kD) := by
  have pm : out.Perm (undup ks) := (List.perm_ext_iff_of_nodup nd (nodup_undup ks)).mpr fun k => by rw [mem k, mem_undup]
  refine sorted_unique (fun a ha b hb h1 h2 => ?_) ((pm.map kD).trans (XC.srt_perm _).symm) so (XC.srt_sorted _)
  obtain ⟨x, _, rfl⟩ := List.mem_map.mp ha
  obtain ⟨y, _, rfl⟩ := List.mem_map.mp hb
  rw [toks_kD (dle_anti h1 h2)]
theorem uniq_t {out ks : List (List Key)} (nd : out.Nodup) (mem : ∀ k, k ∈ out ↔ k ∈ ks) (so : (out.map tD).Pairwise fun a b => XC.dle a b = true) : out.map tD = XC.srt ((undup ks).map tD) := by
  have pm : out.Perm (undup ks) := (List.perm_ext_iff_of_nodup nd (nodup_undup ks)).mpr fun k => by rw [mem k, mem_undup]
  refine sorted_unique (fun a ha b hb h1 h2 => ?_) ((pm.map tD).trans (XC.srt_perm _).symm) so (XC.srt_sorted _)
  obtain ⟨x, _, rfl⟩ := List.mem_map.mp ha
  obtain ⟨y, _, rfl⟩ := List.mem_map.mp hb
  rw [toks_tD (dle_anti h1 h2)]

/-! ### the keys of data -/
def keyOf : PyData → Option Key
  | .int i => some (.inl i)
  | .str z => some (.inr z)
  | _ => none
def keysOf : List PyData → Option (List Key)
  | [] => some []
  | x :: xs => (keyOf x).bind fun k => (keysOf xs).map fun ks => k :: ks
def tkOf : PyData → Option (List Key)
  | .tuple xs => keysOf xs
  | _ => none
def tksOf : List PyData → Option (List (List Key))
  | [] => some []
  | x :: xs => (tkOf x).bind fun k => (tksOf xs).map fun ks => k :: ks
theorem keyOf_kD {x : PyData} {k : Key} (h : keyOf x = some k) : x = kD k := by
  cases x with
  | int i => cases h; rfl
  | str z => cases h; rfl
  | _ => cases h
theorem keysOf_kD : ∀ {xs : List PyData} {ks : List Key}, keysOf xs = some ks → xs = ks.map kD
  | [], _, h => by
    cases h
    rfl
  | x :: xs, _, h => by
    obtain ⟨k, h1, h⟩ := bind_some h
    obtain ⟨ks, h2, rfl⟩ := map_some h
    rw [keyOf_kD h1, keysOf_kD h2, List.map_cons]
theorem tkOf_tD {x : PyData} {k : List Key} (h : tkOf x = some k) : x = tD k := by
  cases x with
  | tuple xs =>
    have := keysOf_kD (show keysOf xs = some k from h)
    rw [this]
    rfl
  | _ => cases h
theorem tksOf_tD : ∀ {xs : List PyData} {ks : List (List Key)}, tksOf xs = some ks → xs = ks.map tD
  | [], _, h => by
    cases h
    rfl
  | x :: xs, _, h => by
    obtain ⟨k, h1, h⟩ := bind_some h
    obtain ⟨ks, h2, rfl⟩ := map_some h
    rw [tkOf_tD h1, tksOf_tD h2, List.map_cons]
open Classical in
noncomputable def opSS (x : PyData) : Option PV := (match x with
  | .list xs => some xs
  | .tuple xs => some xs
  | _ => none).bind fun xs => if xs.length < 64 ∧ XC.Srtbl xs then (match keysOf xs with
    | some ks => some (.l (XC.srt ((undup ks).map kD)))
    | none => (tksOf xs).map fun (kss : List (List Key)) => PV.l (XC.srt ((undup kss).map tD))) else none
def tSS (K : PySem.W.Frag) (te : TE) : TE := fun σ H Q => te σ H fun x H1 =>
  (∃ (l : Addr) (ks : List Key), x = .ref l ∧ Sq K H1 l (ks.map kV) ∧ ks.length < 64 ∧ XC.Srtbl (ks.map kD) ∧
    ∀ (out : List Key) (p : Addr), out.Nodup → (∀ k, k ∈ out ↔ k ∈ ks) → (out.map kD).Pairwise (fun a b => XC.dle a b = true) → H1 p = none → Q (.ref p) (upd H1 p (.lst (out.map kV)))) ∨
  ∃ (l : Addr) (ps : List (Addr × List Key)), x = .ref l ∧ Sq K H1 l (ps.map fun p => V.ref p.1) ∧ (∀ p ∈ ps, TupK K H1 p) ∧ ps.length < 64 ∧ XC.Srtbl (ps.map fun p => tD p.2) ∧
    ∀ (out : List (Addr × List Key)) (p : Addr), (∀ q ∈ out, q ∈ ps) → (out.map Prod.snd).Nodup → (∀ q ∈ ps, q.2 ∈ out.map Prod.snd) → (out.map fun q => tD q.2).Pairwise (fun a b => XC.dle a b = true) → H1 p = none → Q (.ref p) (upd H1 p (.lst (out.map fun q => V.ref q.1)))
theorem pe_ss {X : Cx} {e : Expr} {te : TE} {p p2 q pos : Pos} (hc : X.calm = true) (hu : X.A.units + 200 < cLine) (g1 : Gl X "sorted") (m1 : X.mg "sorted" = none) (g2 : Gl X "set") (m2 : X.mg "set" = none) (he : PE X e te) (ne : starEach [e] X.env = (false, eval e X.env) :: starEach [] X.env := by rfl) :
    PE X (.Call (.Name "sorted" p) [.Call (.Name "set" p2) [e] [] q] [] pos) (tSS X.K te) := by
  refine ⟨fun pins s σ H Q I h => ?_⟩
  refine Call_ (ld_blt I g1 m1 (show bootBuiltins "sorted" = some (.builtin "sorted") by decide +kernel) ?_)
  refine PyProof.Rows.callWith_builtin1 (PyProof.Rows.args_cons ?_ rfl) rfl rfl
  refine Call_ (ld_blt I g2 m2 PyProof.Rows.boot_set ?_)
  refine PyProof.Rows.callWith_type1 (PyProof.Rows.args_cons (thn (he.run pins s σ H _ I h) fun v s1 ⟨x, H1, I1, r1, q1⟩ => PyProof.Rows.args_nil ?_) ne) ne rfl
  rcases q1 with ⟨l, ks, rfl, hl, few, S, q1⟩ | ⟨l, ps, rfl, hl, ht, few, S, q1⟩
  · cases r1
    refine set_flat hc (by omega) I1 hl few fun h' tk a L es ep t I2 B mem => PyProof.Rows.args_nil ?_
    have sub : ∀ d ∈ L.map (fun p => kD p.2), d ∈ ks.map kD := by
      intro d m
      obtain ⟨p, hp, rfl⟩ := List.mem_map.mp m
      exact List.mem_map.mpr ⟨p.2, (mem p.2).mp (List.mem_map.mpr ⟨p, hp, rfl⟩), rfl⟩
    refine sorted_of_set B (I2.ok.hd hc) kD (fun p m => reads_key (B.its p m).1) (srtbl_sub S sub) (by omega) fun s' p c L' k g o hp at_ pm so => ?_
    have few2 : L'.length < 64 := by
      rw [pm.length_eq]
      exact B.few
    refine new_list I2 k g o hp at_ (vals_keys fun p m => (B.its p (pm.mem_iff.mp m)).1) (by rw [List.length_map, List.length_map, sizeLine_eq]; omega) fun hn => q1 (L'.map Prod.snd) p ((pm.map Prod.snd).nodup_iff.mpr B.nd) (fun k => ?_) ?_ hn
    · rw [(pm.map Prod.snd).mem_iff]
      exact mem k
    · rw [List.map_map]
      exact so
  · cases r1
    refine set_tups hc (by omega) I1 hl ht few fun h' tk a L es ep t I2 B in_ all => PyProof.Rows.args_nil ?_
    have sub : ∀ d ∈ (L.map fun p => (Value.ref p.1, p.2)).map (fun p => tD p.2), d ∈ ps.map fun p => tD p.2 := by
      intro d m
      rw [List.map_map] at m
      obtain ⟨p, hp, rfl⟩ := List.mem_map.mp m
      exact List.mem_map.mpr ⟨p, in_ p hp, rfl⟩
    refine sorted_of_set B (I2.ok.hd hc) tD (fun p m => ?_) (srtbl_sub S sub) (by omega) fun s' p c L' k g o hp at_ pm so => ?_
    · obtain ⟨b, e, x⟩ := B.its p m
      rw [e]
      exact reads_tup x
    · obtain ⟨L2, p2, e2⟩ := lift_perm (f := fun p : Addr × List Key => (Value.ref p.1, p.2)) pm L rfl
      subst e2
      have few2 : L2.length < 64 := by
        rw [p2.length_eq]
        have := B.few
        rwa [List.length_map] at this
      have nd : (L.map Prod.snd).Nodup := by
        have := B.nd
        rw [List.map_map] at this
        exact this
      rw [List.map_map] at at_ so
      refine new_list I2 k g o hp at_ (refs_vals L2) (by rw [List.length_map, sizeLine_eq]; omega) fun hn => q1 L2 p (fun q m => in_ q (p2.mem_iff.mp m)) ((p2.map Prod.snd).nodup_iff.mpr nd) (fun q m => ?_) so hn
      rw [(p2.map Prod.snd).mem_iff]
      exact all q m
noncomputable def dSS (f : DF) : DF := dUn opSS f
section
variable {K : PySem.W.Frag} {H0 H : Hp}
theorem dpa_kV : ∀ {vs : List V} {ks : List Key}, DpAll K H0 vs (ks.map kD) → vs = ks.map kV
  | _, [], h => by
    cases h
    rfl
  | _, k :: ks, h => by
    cases h with
    | cons h t =>
      rw [dpa_kV t]
      cases k with
      | inl i => cases h; rfl
      | inr z => cases h; rfl
theorem kV_dpa : ∀ (ks : List Key), DpAll K H0 (ks.map kV) (ks.map kD)
  | [] => .nil
  | .inl i :: ks => .cons (.int i) (kV_dpa ks)
  | .inr z :: ks => .cons (.str z) (kV_dpa ks)
theorem dpa_tups : ∀ {vs : List V} {kss : List (List Key)}, DpAll K H0 vs (kss.map tD) → ∃ ps : List (Addr × List Key), vs = ps.map (fun p => V.ref p.1) ∧ ps.map Prod.snd = kss ∧ (∀ p ∈ ps, SqT K H0 p.1 (p.2.map kV)) ∧ ∀ p ∈ ps, Dp K H0 (.ref p.1) (tD p.2)
  | _, [], h => by
    cases h
    exact ⟨[], rfl, rfl, fun p m => absurd m (by simp), fun p m => absurd m (by simp)⟩
  | _, k :: kss, h => by
    cases h with
    | cons h t =>
      obtain ⟨ps, e1, e2, e3, e4⟩ := dpa_tups t
      have h0 := h
      cases h with
      | tup hs hd =>
        rename_i a ws
        have ew := dpa_kV hd
        subst ew
        refine ⟨(a, k) :: ps, by rw [e1]; rfl, by rw [List.map_cons, e2], fun p m => ?_, fun p m => ?_⟩
        · rcases List.mem_cons.mp m with rfl | m
          · exact hs
          · exact e3 p m
        · rcases List.mem_cons.mp m with rfl | m
          · exact h0
          · exact e4 p m
theorem dpa_refs : ∀ {ps : List (Addr × List Key)}, (∀ p ∈ ps, Dp K H0 (.ref p.1) (tD p.2)) → DpAll K H0 (ps.map fun p => V.ref p.1) (ps.map fun p => tD p.2)
  | [], _ => .nil
  | p :: ps, h => .cons (h p (List.mem_cons_self ..)) (dpa_refs fun q m => h q (List.mem_cons_of_mem _ m))
theorem den_ss {te : TE} {f : DF} (h : DenE K te f) : DenE K (tSS K te) (dSS f) := by
  intro B Fr H0 s σ H r s' R e Q k
  obtain ⟨⟨r1, s1⟩, e1, e⟩ := bind_some e
  obtain ⟨x, e3, e⟩ := bind_some e
  obtain ⟨z, e5, e6⟩ := map_some e
  obtain ⟨rfl, rfl⟩ := Prod.mk.inj e6
  refine h B Fr H0 s σ H r1 s1 R e1 _ fun v1 H1 H01 x1 R1 q1 => ?_
  obtain ⟨H02, x2, R2, q2⟩ := q1.hold R1
  have D := q2.dq R2 e3
  obtain ⟨xs, e7, e8⟩ := bind_some (show (match x with | .list xs => some xs | .tuple xs => some xs | _ => none).bind _ = _ from e5)
  have seq : ∃ l vs, v1 = .ref l ∧ Sq K H1 l vs ∧ DpAll K H02 vs xs := by
    cases x with
    | list ds =>
      cases e7
      obtain ⟨a, vs, rfl, h1, h2⟩ := D
      exact ⟨a, vs, rfl, .inl h1, h2⟩
    | tuple ds =>
      cases e7
      cases (show Dp K H02 v1 (.tuple xs) from D) with
      | tup h1 h2 => exact ⟨_, _, rfl, .inr (ex_t R2.e0 h1), h2⟩
    | _ => cases e7
  obtain ⟨l, vs, rfl, sq, da⟩ := seq
  split at e8
  · rename_i hb
    have out := fun (w : PV) (hw : w = z) => out_of (z := w) R2 fun v H' H0' x5 R5 q5 => k v H' H0' ((x1.trans x2).trans x5) R5 (by rw [← hw]; exact q5)
    cases hk : keysOf xs with
    | some ks =>
      rw [hk] at e8
      have ez := Option.some.inj e8
      have ex := keysOf_kD hk
      subst ex
      have ev := dpa_kV da
      subst ev
      rw [List.length_map] at hb
      refine .inl ⟨l, ks, rfl, sq, hb.1, hb.2, fun o p nd mem so hp => ?_⟩
      refine out _ ez p _ hp ?_
      rw [← uniq_k nd mem so]
      exact kV_dpa o
    | none =>
      rw [hk] at e8
      obtain ⟨kss, h9, ez⟩ := map_some e8
      have ex := tksOf_tD h9
      subst ex
      obtain ⟨ps, ev, es, ht, hd⟩ := dpa_tups da
      subst ev
      subst es
      rw [List.length_map, List.length_map] at hb
      rw [List.map_map] at hb
      refine .inr ⟨l, ps, rfl, sq, fun p m => ex_t R2.e0 (ht p m), hb.1, hb.2, fun o p sub nd mem so hp => ?_⟩
      refine out _ ez p _ hp ?_
      have so' : ((o.map Prod.snd).map tD).Pairwise fun a b => XC.dle a b = true := by
        rw [List.map_map]
        exact so
      have mem' : ∀ k, k ∈ o.map Prod.snd ↔ k ∈ ps.map Prod.snd := fun k => by
        constructor
        · intro m
          obtain ⟨q, hq, rfl⟩ := List.mem_map.mp m
          exact List.mem_map.mpr ⟨q, sub q hq, rfl⟩
        · intro m
          obtain ⟨q, hq, rfl⟩ := List.mem_map.mp m
          exact mem q hq
      rw [← uniq_t nd mem' so', List.map_map]
      exact dpa_refs fun q m => hd q (sub q m)
  · cases e8
end
theorem de_ss {X : Cx} {e : Expr} {te : PySem.W.Frag → TE} {f : DF} {p p2 q pos : Pos} (hc : X.calm = true) (hu : X.A.units + 200 < cLine) (g1 : Gl X "sorted") (m1 : X.mg "sorted" = none) (g2 : Gl X "set") (m2 : X.mg "set" = none) (he : DE X e te f) (ne : starEach [e] X.env = (false, eval e X.env) :: starEach [] X.env := by rfl) :
    DE X (.Call (.Name "sorted" p) [.Call (.Name "set" p2) [e] [] q] [] pos) (fun K => tSS K (te K)) (dSS f) := ⟨pe_ss hc hu g1 m1 g2 m2 he.pe ne, den_ss he.den⟩
end XN

set_option maxRecDepth 100000
set_option maxHeartbeats 4000000
/-! sorted(e, key=len[, reverse=..]) on data -/
namespace XN
open PySem PySem.Spec PyProof.Rows PySem.W L2 Evl XD

def lenOf : PyData → Option Nat
  | .tuple xs => some xs.length
  | _ => none
def lenK (x : PyData) : PyData := .int (((lenOf x).getD 0 : Nat) : Int)
def opSortLen (rev : Bool) : PyData → Option PV
  | .list xs => if xs.length ≤ 100000 ∧ xs.all (fun x => (lenOf x).isSome) = true then some (.l (xs.mergeSort (dataLe rev lenK))) else none
  | _ => none
def tSL (rev : Bool) (K : PySem.W.Frag) (te : TE) : TE := fun σ H Q => te σ H fun x H1 => ∃ (a : Addr) (vs : List V) (ds : List PyData), x = .ref a ∧ SqL K H1 a vs ∧ DpAll K H1 vs ds ∧ ds.length ≤ 100000 ∧ (∀ d ∈ ds, ∃ xs, d = .tuple xs) ∧
  ∀ (ps : List (V × PyData)) (p : Addr), ps.Perm (vs.zip ds) → ps.map Prod.snd = ds.mergeSort (dataLe rev lenK) → H1 p = none → Q (.ref p) (upd H1 p (.lst (ps.map Prod.fst)))
section
variable {X : Cx}
theorem sort_len {rev : Bool} {kw : List (Str × Value)} {pins : List (Addr × Obj)} {σ : L2.St} {H : Hp} {s : Shared} {Q : VK} {a : Addr} {vs : List V} {ds : List PyData} (hu : X.A.units + 100 < cLine) (ha1 : ∀ l : Addr, argsOk "sorted" ⟨[.ref l], kw⟩) (ha2 : ∀ x : Addr, argsOk "list.sort" ⟨[.ref x], kw⟩)
    (ht : ∀ x : Addr, Builtin.«list.sort» ⟨[.ref x], kw⟩ = ksk_tree x (.builtin "len") rev) (I : Inv X pins σ H s) (hs : SqL X.K H a vs) (hd : DpAll X.K H vs ds) (few : ds.length ≤ 100000) (tup : ∀ d ∈ ds, ∃ xs, d = .tuple xs)
    (q : ∀ (ps : List (V × PyData)) (p : Addr), ps.Perm (vs.zip ds) → ps.map Prod.snd = ds.mergeSort (dataLe rev lenK) → H p = none → Q (.ref p) (upd H p (.lst (ps.map Prod.fst)))) :
    wpAny (model X.prog X.w) X.A (call (.builtin "sorted") [.ref a] kw) (EP X pins σ Q) X.xe s := by
  obtain ⟨its, rv, hl, hz⟩ := I.list hs
  have ev := dpa_len hd
  have zl : (vs.zip ds).length = ds.length := by
    rw [List.length_zip]
    omega
  have zs : (vs.zip ds).map Prod.snd = ds := (XC.zip_fst hd).2
  have mem : ∀ p ∈ vs.zip ds, p.2 ∈ ds := fun p hp => by
    rw [← zs]
    exact List.mem_map.mpr ⟨p, hp, rfl⟩
  refine sorted_key_data (b := rev) (R := fun u (p : V × PyData) => RelV p.1 u) (bs := vs.zip ds) (fun p => lenK p.2) hl.isList (XC.each_pairs hd rv) (AllAlike.of fun _ _ => by simp [lenK, alike]) (.inr fun d hd => ?_) (by rw [zl]; exact sz_of few) (fun p hp => ?_) (ha1 a) ha2 ht (fun v p hR hp h tk kp => ?_) fun out c h' tk kp hn at_ hlen e => ?_
  · obtain ⟨p, _, rfl⟩ := List.mem_map.mp hd
    exact ⟨fun z => by simp [lenK] at z, fun _ z => by simp [lenK] at z⟩
  · have : (lenK p.2).depth = 0 := by simp [lenK, PyData.depth]
    omega
  · have D := XC.dp_zip hd p hp
    obtain ⟨xs, ex⟩ := tup p.2 (mem p hp)
    rw [ex] at D
    have hR : RelV p.1 v := hR
    generalize p.1 = w at D hR
    cases D with
    | tup ht hda =>
      cases hR
      obtain ⟨us, r1, pl, z⟩ := I.tuple ht
      obtain ⟨o, ho, hc, n, hdat⟩ := pl
      have hlen : us.length = xs.length := by rw [← r1.length, dpa_len hda]
      have h63 := line63
      have hl2 := r1.length
      refine len_tuple (s := { s with heap := h, toks := tk }) (items := us.toArray) ⟨o, kp _ _ ho, hc, n, hdat⟩ (by simp only [List.size_toArray]; omega) ⟨h, tk + 1 + 1, rfl, fun _ _ e => e, ?_⟩
      rw [ex]
      have : lenK (.tuple xs) = .int (us.toArray.size : Nat) := by
        rw [List.size_toArray, hlen]
        rfl
      rw [this]
      exact .int _ _
  · have pm : ((vs.zip ds).mergeSort (dataLe rev fun p : V × PyData => lenK p.2)).Perm (vs.zip ds) := List.mergeSort_perm _ _
    have es : ((vs.zip ds).mergeSort (dataLe rev fun p : V × PyData => lenK p.2)).map Prod.snd = ds.mergeSort (dataLe rev lenK) := by
      rw [sort_maps (r := dataLe rev fun p : V × PyData => lenK p.2) (s := dataLe rev lenK) Prod.snd (l := vs.zip ds) (fun _ _ _ _ => rfl), zs]
    refine ⟨.ref (s.heap.objs.size + 1), upd H (s.heap.objs.size + 1) (.lst (((vs.zip ds).mergeSort (dataLe rev fun p : V × PyData => lenK p.2)).map Prod.fst)),
      I.laid (t' := tk) kp (Nat.le_succ _) ⟨?_, _, c, XC.vals_of_each e, at_⟩, rfl, q _ _ pm es (I.hok.fresh (Nat.le_succ _))⟩
    rw [List.length_map, pm.length_eq, zl]
    exact sz_of few
variable {e : Expr} {te : TE} {p p2 q kp kq pos : Pos} {jj}
/-- what is asked of the list -/
def wSL (rev : Bool) (K : PySem.W.Frag) (Q : VK) : List V → Hp → Prop
  | [x], H1 => ∃ (a : Addr) (vs : List V) (ds : List PyData), x = .ref a ∧ SqL K H1 a vs ∧ DpAll K H1 vs ds ∧ ds.length ≤ 100000 ∧ (∀ d ∈ ds, ∃ xs, d = .tuple xs) ∧
      ∀ (ps : List (V × PyData)) (p : Addr), ps.Perm (vs.zip ds) → ps.map Prod.snd = ds.mergeSort (dataLe rev lenK) → H1 p = none → Q (.ref p) (upd H1 p (.lst (ps.map Prod.fst)))
  | _, _ => False
theorem pe_sl1 (hu : X.A.units + 100 < cLine) (g1 : Gl X "sorted") (m1 : X.mg "sorted" = none) (g2 : Gl X "len") (m2 : X.mg "len" = none) (he : PE X e te) (ne : backTo pos (starEach [e] X.env) = (false, eval e X.env) :: backTo pos (starEach [] X.env) := by rfl) (n2 : starEach [e] X.env = (false, eval e X.env) :: starEach [] X.env := by rfl) (n3 : (backTo pos (starEach [e] X.env)).any (·.1) = false := by rfl) :
    PE X (.Call (.Name "sorted" p) [e] [⟨some "key", .Name "len" p2, kp⟩] pos) (tSL false X.K te) := by
  refine ⟨fun pins s σ H Q I h => ?_⟩
  refine wpAny_Call_Name_kw (ld_blt I g1 m1 (show bootBuiltins "sorted" = some (.builtin "sorted") by decide +kernel) ?_)
  refine PyProof.Rows.callWith_kw (thn ((pa_cons he pa_nil n2).run pos pins s σ H (wSL false X.K Q) I h) fun us s1 ⟨vs, H1, I1, r1, q1⟩ => ?_) ne n3 rfl rfl
  match vs, r1, q1 with
  | [x], r1, q1 =>
    obtain ⟨a, ws, ds, rfl, hs, hd, few, tup, q⟩ := q1
    obtain ⟨u, rfl, ru⟩ := vals1 r1
    obtain rfl : u = Value.ref a := ru
    show wpAny _ _ (evalAll [(do let v ← eval (.Name "len" p2) X.env; standAt pos; pure v)]) _ _ _
    refine wpAny_evalAll_cons (wpAny_bind (ld_blt I1 g2 m2 PySem.boot_len (wpAny_bind (wpAny_standAt (wpAny_pure (wpAny_evalAll_nil ?_))))))
    exact sort_len (rev := false) hu (fun _ => ksk_s1 _ _) (fun _ => ksk_l1 _ _) (fun _ => ksk_t4 _ _) I1 hs hd few tup q
theorem pe_sl2 (b : Bool) (hu : X.A.units + 100 < cLine) (g1 : Gl X "sorted") (m1 : X.mg "sorted" = none) (g2 : Gl X "len") (m2 : X.mg "len" = none) (he : PE X e te) (ne : backTo pos (starEach [e] X.env) = (false, eval e X.env) :: backTo pos (starEach [] X.env) := by rfl) (n2 : starEach [e] X.env = (false, eval e X.env) :: starEach [] X.env := by rfl) (n3 : (backTo pos (starEach [e] X.env)).any (·.1) = false := by rfl) :
    PE X (.Call (.Name "sorted" p) [e] [⟨some "key", .Name "len" p2, kp⟩, ⟨some "reverse", .Constant (.bool b) jj q, kq⟩] pos) (tSL b X.K te) := by
  refine ⟨fun pins s σ H Q I h => ?_⟩
  refine wpAny_Call_Name_kw (ld_blt I g1 m1 (show bootBuiltins "sorted" = some (.builtin "sorted") by decide +kernel) ?_)
  refine PyProof.Rows.callWith_kw (thn ((pa_cons he pa_nil n2).run pos pins s σ H (wSL b X.K Q) I h) fun us s1 ⟨vs, H1, I1, r1, q1⟩ => ?_) ne n3 rfl rfl
  match vs, r1, q1 with
  | [x], r1, q1 =>
    obtain ⟨a, ws, ds, rfl, hs, hd, few, tup, q⟩ := q1
    obtain ⟨u, rfl, ru⟩ := vals1 r1
    obtain rfl : u = Value.ref a := ru
    show wpAny _ _ (evalAll [(do let v ← eval (.Name "len" p2) X.env; standAt pos; pure v), (do let v ← eval (.Constant (.bool b) _ _) X.env; standAt pos; pure v)]) _ _ _
    refine wpAny_evalAll_cons (wpAny_bind (ld_blt I1 g2 m2 PySem.boot_len (wpAny_bind (wpAny_standAt (wpAny_pure ?_)))))
    refine wpAny_evalAll_cons (wpAny_bind (Constant_bool (wpAny_bind (wpAny_standAt (wpAny_pure (wpAny_evalAll_nil ?_))))))
    exact sort_len (rev := b) hu (fun _ => ksk_s2 _ _ _) (fun _ => ksk_l2 _ _ _) (fun _ => ksk_t5 _ _ _) I1 hs hd few tup q
end
theorem den_sortLen {K : PySem.W.Frag} {te : TE} {f : DF} (rev : Bool) (h : DenE K te f) : DenE K (tSL rev K te) (dUn (opSortLen rev) f) := by
  intro B Fr H0 s σ H r s' R e Q k
  obtain ⟨⟨r1, s1⟩, e1, e⟩ := bind_some e
  obtain ⟨x, e3, e⟩ := bind_some e
  obtain ⟨z, e5, e6⟩ := map_some e
  obtain ⟨rfl, rfl⟩ := Prod.mk.inj e6
  refine h B Fr H0 s σ H r1 s1 R e1 _ fun v1 H1 H01 x1 R1 q1 => ?_
  obtain ⟨H02, x2, R2, q2⟩ := q1.hold R1
  have D := q2.dq R2 e3
  cases x with
  | list xs =>
    obtain ⟨a, vs, rfl, hs, hd⟩ := D
    have e5 : (if xs.length ≤ 100000 ∧ xs.all (fun x => (lenOf x).isSome) = true then some (PV.l (xs.mergeSort (dataLe rev lenK))) else none) = some z := e5
    split at e5
    · rename_i hb
      obtain rfl := Option.some.inj e5
      refine ⟨a, vs, xs, rfl, hs, dpa_ex R2.e0 _ _ hd, hb.1, fun d m => ?_, fun ps p pm es hp => ?_⟩
      · have := List.all_eq_true.mp hb.2 d m
        cases d with
        | tuple ys => exact ⟨ys, rfl⟩
        | _ => cases this
      · refine out_of (z := .l (xs.mergeSort (dataLe rev lenK))) R2 (fun v H' H0' x5 R5 q5 => k v H' H0' ((x1.trans x2).trans x5) R5 q5) p _ hp ?_
        rw [← es]
        exact XC.dp_of_pairs fun q hq => XC.dp_zip hd q (pm.mem_iff.mp hq)
    · cases e5
  | _ => cases e5
section
variable {X : Cx} {e : Expr} {te : PySem.W.Frag → TE} {f : DF} {p p2 q kp kq pos : Pos} {jj}
theorem de_sl1 (hu : X.A.units + 100 < cLine) (g1 : Gl X "sorted") (m1 : X.mg "sorted" = none) (g2 : Gl X "len") (m2 : X.mg "len" = none) (he : DE X e te f) (ne : backTo pos (starEach [e] X.env) = (false, eval e X.env) :: backTo pos (starEach [] X.env) := by rfl) (n2 : starEach [e] X.env = (false, eval e X.env) :: starEach [] X.env := by rfl) (n3 : (backTo pos (starEach [e] X.env)).any (·.1) = false := by rfl) :
    DE X (.Call (.Name "sorted" p) [e] [⟨some "key", .Name "len" p2, kp⟩] pos) (fun K => tSL false K (te K)) (dUn (opSortLen false) f) := ⟨pe_sl1 hu g1 m1 g2 m2 he.pe ne n2 n3, den_sortLen false he.den⟩
theorem de_sl2 (b : Bool) (hu : X.A.units + 100 < cLine) (g1 : Gl X "sorted") (m1 : X.mg "sorted" = none) (g2 : Gl X "len") (m2 : X.mg "len" = none) (he : DE X e te f) (ne : backTo pos (starEach [e] X.env) = (false, eval e X.env) :: backTo pos (starEach [] X.env) := by rfl) (n2 : starEach [e] X.env = (false, eval e X.env) :: starEach [] X.env := by rfl) (n3 : (backTo pos (starEach [e] X.env)).any (·.1) = false := by rfl) :
    DE X (.Call (.Name "sorted" p) [e] [⟨some "key", .Name "len" p2, kp⟩, ⟨some "reverse", .Constant (.bool b) jj q, kq⟩] pos) (fun K => tSL b K (te K)) (dUn (opSortLen b) f) := ⟨pe_sl2 b hu g1 m1 g2 m2 he.pe ne n2 n3, den_sortLen b he.den⟩
end
end XN

set_option maxRecDepth 100000
set_option maxHeartbeats 4000000
/-! a def called by keywords alone, in the parameters' order -/
namespace XN
open PySem PySem.Spec PyProof.Rows L2 Evl

def HasK (P : Program) (w : World) (K : PySem.W.Frag) (mg : Str → Option Value) (base : Heap) (k : Nat) (x : Str) (ps : List Str) (F : DFun) : Prop :=
  ∃ (fa : Addr) (fd : FuncData), mg x = some (.ref fa) ∧ PySem.W.keepIn K (.ref fa) = true ∧ (∀ (s : Shared) (ws : List Value), ws.length = ps.length → BindsTo s fd ⟨[], ps.zip ws⟩ (ps.zip ws)) ∧ XG.FnG P w K mg base CX0 k fa fd ps (spD K ps.length F)
structure DKs (X : Cx) (kws : List Keyword) (ta : PySem.W.Frag → TA) (f : DA) : Prop where
  pk : PK X kws (ta X.K)
  den : DenA X.K (ta X.K) f
  len : ∀ s p, f s = some p → p.1.length = kws.length
section
variable {X : Cx} {e : Expr} {kws : List Keyword} {te : PySem.W.Frag → TE} {tas : PySem.W.Frag → TA} {f : DF} {fa : DA} {pos kpos : Pos} {nm : Option Str}
theorem dk_nil : DKs X [] (fun _ => tNil) dNil := ⟨pk_nil, den_nil, fun s p h => by
  obtain rfl := Option.some.inj h
  rfl⟩
theorem dk_cons (ha : DE X e te f) (hr : DKs X kws tas fa) : DKs X (⟨nm, e, kpos⟩ :: kws) (fun K => tCons (te K) (tas K)) (dCons f fa) := ⟨pk_cons ha.pe hr.pk, den_cons ha.den hr.den, fun s p h => by
  obtain ⟨q, e1, h⟩ := bind_some h
  obtain ⟨w, e2, rfl⟩ := map_some h
  show (q.1.hold :: w.1).length = _
  rw [List.length_cons, hr.len _ _ e2]
  rfl⟩
theorem de_callK {x : Str} {p : Pos} {k : Nat} {ps : List Str} {F : DFun} (hf : HasK X.prog X.w X.K X.mg X.base k x ps F) (hg : X.A.guards = some []) (hr : Room k X.A) (gl : Gl X x) (ha : DKs X kws tas fa) (hn : kws.length = ps.length := by rfl)
    (hks : (backToKw pos (keywordEach kws X.env)).filterMap (·.1) = ps := by rfl) (hall : (backToKw pos (keywordEach kws X.env)).all (·.1.isSome) = true := by rfl)
    (hpl : ((backTo pos (starEach [] X.env)).any (·.1) || (backToKw pos (keywordEach kws X.env)).any (·.1.isNone)) = false := by rfl) (hdb : (x == ("__debug__" : Str)) = false := by decide) :
    DE X (.Call (.Name x p) [] kws pos) (fun K => tCall (spD K ps.length F) [] E0 (tas K)) (dCall F fa) := by
  obtain ⟨af, fd, hm, hk, hb, FG⟩ := hf
  refine ⟨⟨fun pins s σ H Q I h => ?_⟩, den_call ha.den fun s p h => (ha.len s p h).trans hn⟩
  refine wpAny_Call_Name_kw (ld_glob I gl hm ?_ hdb)
  refine PySem.W.callWith_KW0 (h₀ := X.base) I.ok.mod.kin hk hall (thn (ha.pk.run pos pins s σ H _ I h) fun ws s2 ⟨vs, H2, I2, rz, q2⟩ => ⟨I2.kIn, ?_⟩) hpl
  rw [hks]
  have q2 : spD X.K ps.length F (vs ++ []) H2 Q E0 := q2
  rw [List.append_nil] at q2
  have hl : ws.length = ps.length := rz.length.symm.trans (FG.many _ _ _ _ q2)
  refine wpAny_call (codeAny_mono (FG.go X.A X.stack s2 H2 ⟨[], ps.zip ws⟩ ws vs Q E0 hg hr I2.env0 (hb s2 ws hl) rz q2) fun res s' q => ?_)
  match res, q with
  | .error e, q => exact q.elim
  | .ok (.ret u), q => exact I2.after q
end
end XN

set_option maxRecDepth 100000
set_option maxHeartbeats 4000000
/-! a block that begins with a new box -/
namespace XN
open PySem PySem.Spec PyProof.Rows L2 Evl

def intsOf : List PyData → Option (List Int)
  | [] => some []
  | .int n :: xs => (intsOf xs).map fun ns => n :: ns
  | _ => none
theorem ints_map : ∀ {xs : List PyData} {ns : List Int}, intsOf xs = some ns → xs = ns.map .int
  | [], _, h => by
    cases h
    rfl
  | .int n :: xs, _, h => by
    obtain ⟨ns, h1, rfl⟩ := map_some (show (intsOf xs).map _ = _ from h)
    rw [ints_map h1]
    rfl
  | .none :: _, _, h => nomatch h
  | .bool _ :: _, _, h => nomatch h
  | .str _ :: _, _, h => nomatch h
  | .list _ :: _, _, h => nomatch h
  | .tuple _ :: _, _, h => nomatch h
  | .dict _ :: _, _, h => nomatch h
theorem dpa_intsV {K : PySem.W.Frag} {H : Hp} : ∀ {vs : List V} {ns : List Int}, DpAll K H vs (ns.map PyData.int) → vs = ns.map V.int
  | _, [], h => by
    cases h
    rfl
  | _, n :: ns, h => by
    cases h with
    | cons h t =>
      cases h
      rw [dpa_intsV t]
      rfl
def noBx : Option SV → Option SV
  | some .bx => none
  | o => o
def SS.noBox (s : SS) : SS := ⟨s.e.map noBx, []⟩
def plainOut : OutS → Bool
  | .rt (.d _) => true
  | .rt _ => false
  | _ => true
def dBlk (i : Nat) (f : DF) (g : DS) : DS := fun s => if s.b = [] then (f s).bind fun p => match p.1 with
  | .fresh xs => (intsOf xs).bind fun ns => if ns ≠ [] ∧ i < p.2.e.length then (g ⟨p.2.e.set i (some .bx), ns⟩).bind fun q => if plainOut q.1 = true then some (q.1, q.2.noBox) else none else none
  | _ => none else none
section
variable {K : PySem.W.Frag} {B : Option Addr} {Fr H0 H0' H H' : Hp} {s s' : SS} {σ : L2.St} {te : TE} {ts : TS} {f : DF} {g : DS}
theorem noBx_own {e : List (Option SV)} {i : Nat} {w : SV} (h : (e.map noBx)[i]? = some (some w)) : e[i]? = some (some w) ∧ w ≠ .bx := by
  rw [List.getElem?_map] at h
  obtain ⟨o, h1, h2⟩ := map_some h
  rw [h1]
  cases o with
  | none => cases h2
  | some u =>
    cases u with
    | d x => cases h2; exact ⟨rfl, nofun⟩
    | own xs => cases h2; exact ⟨rfl, nofun⟩
    | bx => cases h2
theorem Rel.unbox {p : Addr} (R : Rel K (some p) Fr H0 s σ H) : Rel K none Fr H0 s.noBox σ H where
  e0 := R.e0
  ef := R.ef
  dj := R.dj
  box := fun _ z => nomatch z
  len := (List.length_map _).trans R.len
  bb := fun _ => rfl
  sl := fun i w hi => by
    obtain ⟨h1, h2⟩ := noBx_own (show (s.e.map noBx)[i]? = _ from hi)
    have := R.sl i w h1
    cases w with
    | d x => exact this
    | own xs =>
      obtain ⟨q, vs, hu, a, b, c, d, e⟩ := this
      exact ⟨q, vs, hu, a, b, nofun, d, e⟩
    | bx => exact absurd rfl h2
  ne := fun i j xs ys q n hi hj => R.ne i j xs ys q n (noBx_own (show (s.e.map noBx)[i]? = _ from hi)).1 (noBx_own (show (s.e.map noBx)[j]? = _ from hj)).1
theorem den_blk {i : Nat} (hf : DenE K te f) (hg : DenS K ts g) : DenS K (tSeq (tAsg te (gName i)) ts) (dBlk i f g) := by
  intro B Fr H0 s σ H o s' R e D k
  unfold dBlk at e
  split at e
  · rename_i hb
    obtain rfl := R.bb hb
    obtain ⟨⟨r, s1⟩, e1, e⟩ := bind_some e
    dsimp only at e
    split at e
    · rename_i xs
      obtain ⟨ns, e2, e⟩ := bind_some e
      split at e
      · rename_i hn
        obtain ⟨⟨o3, s3⟩, e3, e⟩ := bind_some e
        dsimp only at e
        split at e
        · rename_i hp
          obtain ⟨rfl, rfl⟩ := Prod.mk.inj (Option.some.inj e)
          refine hf none Fr H0 s σ H _ s1 R e1 _ fun v H1 H01 x1 R1 q1 => ?_
          obtain ⟨p, vs, rfl, h1, h2, h3, h4, h5, h6⟩ := q1
          have ex := ints_map e2
          subst ex
          have ev := dpa_intsV h5
          subst ev
          have il : i < σ.length := by rw [← R1.len]; exact hn.2
          have R2 : Rel K (some p) Fr H01 ⟨s1.e.set i (some .bx), ns⟩ (σ.set i (some (.ref p))) H1 := by
            have get : ∀ (j : Nat) (w : SV), (s1.e.set i (some .bx))[j]? = some (some w) → (j = i ∧ w = .bx) ∨ (j ≠ i ∧ s1.e[j]? = some (some w)) := by
              intro j w hj
              by_cases z : i = j
              · subst z
                rw [List.getElem?_set_self hn.2] at hj
                cases hj
                exact .inl ⟨rfl, rfl⟩
              · rw [List.getElem?_set_ne z] at hj
                exact .inr ⟨fun e => z e.symm, hj⟩
            refine { e0 := R1.e0, ef := R1.ef, dj := R1.dj, box := fun q hq => ?_, len := ?_, bb := fun z => absurd z hn.1, sl := fun j w hj => ?_, ne := fun j l as bs q n gj gl pj pl => ?_ }
            · cases hq
              exact ⟨h1, h2, h4⟩
            · show (s1.e.set i _).length = _
              rw [List.length_set, List.length_set]
              exact R1.len
            · rcases get j w hj with ⟨z, rfl⟩ | ⟨n, hj⟩
              · rw [z, List.getElem?_set_self il]
                exact ⟨p, rfl, rfl⟩
              · rw [List.getElem?_set_ne (fun e => n e.symm)]
                cases w with
                | d x => exact R1.sl j _ hj
                | own as =>
                  obtain ⟨q, ws, hu, a, b, c, d, e⟩ := R1.sl j _ hj
                  exact ⟨q, ws, hu, a, b, fun z => h6 j as hj (by rw [hu, Option.some.inj z]), d, e⟩
                | bx =>
                  obtain ⟨q, hq, _⟩ := R1.sl j _ hj
                  cases hq
            · rcases get j _ gj with ⟨_, z⟩ | ⟨n1, hj⟩
              · cases z
              · rcases get l _ gl with ⟨_, z⟩ | ⟨n2, hl⟩
                · cases z
                · rw [List.getElem?_set_ne (fun e => n1 e.symm)] at pj
                  rw [List.getElem?_set_ne (fun e => n2 e.symm)] at pl
                  exact R1.ne j l as bs q n hj hl pj pl
          refine hg (some p) Fr H01 _ _ H1 o3 s3 R2 e3 D ?_
          cases o3 with
          | nx => exact fun σ' H' H02 x2 R3 => k σ' H' H02 (x1.trans x2) R3.unbox
          | bk => exact fun σ' H' H02 x2 R3 => k σ' H' H02 (x1.trans x2) R3.unbox
          | ct => exact fun σ' H' H02 x2 R3 => k σ' H' H02 (x1.trans x2) R3.unbox
          | rt r =>
            cases r with
            | d x => exact fun v σ' H' H02 x2 R3 q3 => k v σ' H' H02 (x1.trans x2) R3.unbox q3
            | _ => cases hp
        · cases e
      · cases e
    · cases e
  · cases e
end
section
variable {X : Cx} {e : Expr} {te : PySem.W.Frag → TE} {ts : PySem.W.Frag → TS} {f : DF} {g : DS} {pos : Pos} {rest : List Stmt}
theorem dss_blk (i : Nat) {x : Str} {pos' : Pos} (hN : X.N.Nodup) (he : DE X e te f) (hr : DSs X rest ts g) (hi : X.N[i]? = some x := by rfl) (hx : Loc X.env.scope x := by first | exact .inl rfl | exact .inr rfl) (hs : swapsWith e (some (.Name x pos')) pos.line X.env = pure false := by rfl)
    (hf : X.fn x = true ∨ X.env.scope.names.lookup x = some .local := by first | exact .inl rfl | exact .inr rfl) : DSs X (.Assign [.Name x pos'] e pos :: rest) (fun K => tSeq (tAsg (te K) (gName i)) (ts K)) (dBlk i f g) := ⟨pss_cons (ps_set hN hi hx he.pe hs hf) hr.ps, den_blk he.den hr.den⟩
end
end XN

set_option maxRecDepth 100000
set_option maxHeartbeats 4000000
/-! the readings step by step: from the inside, no step goes below a binder -/
namespace XN
open PySem PySem.Spec PyProof.Rows PySem.W L2 Evl
section
variable {op op' : PyData → PyData → Option PV} {o1 : PyData → Option PV} {oB : List PyData → Option PV} {f g h : DF} {c c' : DT} {fa ga : DA} {fs gs : DS} {s s1 s2 : SS} {i j m : Nat} {x y : PyData} {xs ys : List PyData} {r r1 r2 : RV} {rs : List RV} {z : PV} {b : Bool} {F : DFun} {as : List SV} {w : SV} {bs : List Int} {e : List (Option SV)} {it : DI} {ito : DIo} {gt : DG} {vs : List Nat}
def opK4 (o : Option PV) (s : SS) : Option (RV × SS) := o.map fun z => (z.rv, s)
theorem e_op4 {z : PV} : opK4 (some z) s = some (z.rv, s) := id rfl
def opK3 (op : PyData → PyData → Option PV) (a b : Option PyData) (s : SS) : Option (RV × SS) := a.bind fun x => b.bind fun y => opK4 (op x y) s
theorem e_op3 : opK3 op (some x) (some y) s = opK4 (op x y) s := id rfl
def opK2 (op : PyData → PyData → Option PV) (r : RV) (o : Option (RV × SS)) : Option (RV × SS) := o.bind fun q => opK3 op (r.dat q.2) (q.1.hold.dat q.2) q.2
theorem e_op2 : opK2 op r (some (r2, s2)) = opK3 op (r.dat s2) (r2.hold.dat s2) s2 := id rfl
def opK (op : PyData → PyData → Option PV) (g : DF) (o : Option (RV × SS)) : Option (RV × SS) := o.bind fun p => opK2 op p.1.hold (g p.2)
theorem e_op1 : opK op g (some (r, s1)) = opK2 op r.hold (g s1) := id rfl
theorem e_op : dOp op f g s = opK op g (f s) := id rfl
def unK2 (op : PyData → Option PV) (a : Option PyData) (s : SS) : Option (RV × SS) := a.bind fun x => opK4 (op x) s
theorem e_un2 : unK2 o1 (some x) s = opK4 (o1 x) s := id rfl
def unK (op : PyData → Option PV) (o : Option (RV × SS)) : Option (RV × SS) := o.bind fun p => unK2 op (p.1.hold.dat p.2) p.2
theorem e_un1 : unK o1 (some (r, s1)) = unK2 o1 (r.hold.dat s1) s1 := id rfl
theorem e_un : dUn o1 f s = unK o1 (f s) := id rfl
def seqK (g : DS) (o : Option (OutS × SS)) : Option (OutS × SS) := o.bind fun p => match p.1 with
  | .nx => g p.2
  | o => some (o, p.2)
theorem e_seq_nx : seqK gs (some (.nx, s1)) = gs s1 := id rfl
theorem e_seq_rt : seqK gs (some (.rt r, s1)) = some (.rt r, s1) := id rfl
theorem e_seq_bk : seqK gs (some (.bk, s1)) = some (.bk, s1) := id rfl
theorem e_seq_ct : seqK gs (some (.ct, s1)) = some (.ct, s1) := id rfl
theorem e_seq : dSeq fs gs s = seqK gs (fs s) := id rfl
theorem e_nx : dNx s = some (.nx, s) := id rfl
theorem e_bk : dBk s = some (.bk, s) := id rfl
theorem e_ct : dCt s = some (.ct, s) := id rfl
def putK (o : Option SS) : Option (OutS × SS) := o.map fun s => (.nx, s)
theorem e_put : putK (some s) = some (.nx, s) := id rfl
def setK (i : Nat) (o : Option (RV × SS)) : Option (OutS × SS) := o.bind fun p => if i < p.2.e.length then putK (p.2.put i p.1) else none
theorem e_set1 : setK i (some (r, s1)) = if i < s1.e.length then putK (s1.put i r) else none := id rfl
theorem e_set : dSet i f s = setK i (f s) := id rfl
def dropK (o : Option (RV × SS)) : Option (OutS × SS) := o.map fun p => (.nx, p.2)
theorem e_drop1 : dropK (some (r, s1)) = some (.nx, s1) := id rfl
theorem e_drop : dDrop f s = dropK (f s) := id rfl
def retK (o : Option (RV × SS)) : Option (OutS × SS) := o.map fun p => (.rt p.1, p.2)
theorem e_ret1 : retK (some (r, s1)) = some (.rt r, s1) := id rfl
theorem e_ret : dRet f s = retK (f s) := id rfl
theorem e_retN : dRetN s = some (.rt (.d .none), s) := id rfl
def ifK {α : Type} (f g : SS → Option α) (o : Option (Bool × SS)) : Option α := o.bind fun p => if p.1 = true then f p.2 else g p.2
theorem e_if_t {α : Type} {f g : SS → Option α} : ifK f g (some (true, s1)) = f s1 := id rfl
theorem e_if_f {α : Type} {f g : SS → Option α} : ifK f g (some (false, s1)) = g s1 := id rfl
theorem e_ifS : dIfS c fs gs s = ifK fs gs (c s) := id rfl
theorem e_ifE : dIf c f g s = ifK f g (c s) := id rfl
def testK (o : Option (RV × SS)) : Option (Bool × SS) := o.bind fun p => match p.1 with
  | .d (.bool b) => some (b, p.2)
  | _ => none
theorem e_test1 : testK (some (.d (.bool b), s1)) = some (b, s1) := id rfl
theorem e_test : dTest f s = testK (f s) := id rfl
def notK (o : Option (Bool × SS)) : Option (Bool × SS) := o.map fun p => (!p.1, p.2)
theorem e_not1 : notK (some (b, s1)) = some (!b, s1) := id rfl
theorem e_not : dNot c s = notK (c s) := id rfl
def andK (d : DT) (o : Option (Bool × SS)) : Option (Bool × SS) := o.bind fun p => if p.1 = true then d p.2 else some (false, p.2)
theorem e_and_t : andK c (some (true, s1)) = c s1 := id rfl
theorem e_and_f : andK c (some (false, s1)) = some (false, s1) := id rfl
theorem e_and : dAnd c c' s = andK c' (c s) := id rfl
def orK (d : DT) (o : Option (Bool × SS)) : Option (Bool × SS) := o.bind fun p => if p.1 = true then some (true, p.2) else d p.2
theorem e_or_t : orK c (some (true, s1)) = some (true, s1) := id rfl
theorem e_or_f : orK c (some (false, s1)) = c s1 := id rfl
theorem e_or : dOr c c' s = orK c' (c s) := id rfl
def andVK (g : DF) (o : Option (Bool × SS)) : Option (RV × SS) := o.bind fun p => if p.1 = true then g p.2 else some (.d (.bool false), p.2)
theorem e_andV_t : andVK f (some (true, s1)) = f s1 := id rfl
theorem e_andV_f : andVK f (some (false, s1)) = some (.d (.bool false), s1) := id rfl
theorem e_andV : dAndV f g s = andVK g (testK (f s)) := id rfl
def orVK (g : DF) (o : Option (Bool × SS)) : Option (RV × SS) := o.bind fun p => if p.1 = true then some (.d (.bool true), p.2) else g p.2
theorem e_orV_t : orVK f (some (true, s1)) = some (.d (.bool true), s1) := id rfl
theorem e_orV_f : orVK f (some (false, s1)) = f s1 := id rfl
theorem e_orV : dOrV f g s = orVK g (testK (f s)) := id rfl
def notVK (o : Option (Bool × SS)) : Option (RV × SS) := o.map fun p => (.d (.bool (!p.1)), p.2)
theorem e_notV1 : notVK (some (b, s1)) = some (.d (.bool (!b)), s1) := id rfl
theorem e_notV : dNotV f s = notVK (testK (f s)) := id rfl
theorem e_nil : dNil s = some ([], s) := id rfl
def consK2 (r : RV) (o : Option (List RV × SS)) : Option (List RV × SS) := o.map fun q => (r :: q.1, q.2)
theorem e_cons2 : consK2 r (some (rs, s2)) = some (r :: rs, s2) := id rfl
def consK (g : DA) (o : Option (RV × SS)) : Option (List RV × SS) := o.bind fun p => consK2 p.1.hold (g p.2)
theorem e_cons1 : consK ga (some (r, s1)) = consK2 r.hold (ga s1) := id rfl
theorem e_cons : dCons f ga s = consK ga (f s) := id rfl
def tkK2 (x : PyData) (o : Option (List PyData × SS)) : Option (List PyData × SS) := o.map fun q => (x :: q.1, q.2)
theorem e_tk2 : tkK2 x (some (xs, s2)) = some (x :: xs, s2) := id rfl
def tkK (rs : List RV) (o : Option (PyData × SS)) : Option (List PyData × SS) := o.bind fun p => tkK2 p.1 (takeAll rs p.2)
theorem e_tk1 : tkK rs (some (x, s1)) = tkK2 x (takeAll rs s1) := id rfl
theorem e_tk0 : takeAll [] s = some ([], s) := id rfl
theorem e_tk : takeAll (r :: rs) s = tkK rs (r.take s) := id rfl
def tupK2 (o : Option (List PyData × SS)) : Option (RV × SS) := o.bind fun q => if q.1.length ≤ 100000 then some (.d (.tuple q.1), q.2) else none
theorem e_tup2 : tupK2 (some (xs, s2)) = if xs.length ≤ 100000 then some (.d (.tuple xs), s2) else none := id rfl
def tupK (o : Option (List RV × SS)) : Option (RV × SS) := o.bind fun p => tupK2 (takeAll p.1 p.2)
theorem e_tup1 : tupK (some (rs, s1)) = tupK2 (takeAll rs s1) := id rfl
theorem e_tup : dTup fa s = tupK (fa s) := id rfl
def lstK2 (o : Option (List PyData × SS)) : Option (RV × SS) := o.bind fun q => if q.1.length ≤ 100000 then some (.fresh q.1, q.2) else none
theorem e_lst2 : lstK2 (some (xs, s2)) = if xs.length ≤ 100000 then some (.fresh xs, s2) else none := id rfl
def lstK (o : Option (List RV × SS)) : Option (RV × SS) := o.bind fun p => lstK2 (takeAll p.1 p.2)
theorem e_lst1 : lstK (some (rs, s1)) = lstK2 (takeAll rs s1) := id rfl
theorem e_lst : dLst fa s = lstK (fa s) := id rfl
def daK (a : Option PyData) (b : Option (List PyData)) : Option (List PyData) := a.bind fun x => b.map fun xs => x :: xs
theorem e_da1 : daK (some x) (some xs) = some (x :: xs) := id rfl
theorem e_da0 : datAll s [] = some [] := id rfl
theorem e_da : datAll s (r :: rs) = daK (r.dat s) (datAll s rs) := id rfl
def cbK2 (op : List PyData → Option PV) (a : Option (List PyData)) (s : SS) : Option (RV × SS) := a.bind fun xs => opK4 (op xs) s
theorem e_cb2 : cbK2 oB (some xs) s = opK4 (oB xs) s := id rfl
def cbK (op : List PyData → Option PV) (o : Option (List RV × SS)) : Option (RV × SS) := o.bind fun p => cbK2 op (datAll p.2 p.1) p.2
theorem e_cb1 : cbK oB (some (rs, s1)) = cbK2 oB (datAll s1 rs) s1 := id rfl
theorem e_cb : dCB oB fa s = cbK oB (fa s) := id rfl
def vK (i : Nat) (o : Option (Option SV)) (s : SS) : Option (RV × SS) := match o with
  | some (some (.d x)) => some (.d x, s)
  | some (some (.own _)) => some (.sl i, s)
  | some (some .bx) => some (.bx, s)
  | _ => none
theorem e_v_d : vK i (some (some (.d x))) s = some (.d x, s) := id rfl
theorem e_v_o : vK i (some (some (.own xs))) s = some (.sl i, s) := id rfl
theorem e_v_b : vK i (some (some .bx)) s = some (.bx, s) := id rfl
theorem e_v : dV i s = vK i (s.e[i]?) s := id rfl
theorem e_c : dC x s = some (.d x, s) := id rfl
theorem e_h_d : (RV.d x).hold = .d x := id rfl
theorem e_h_f : (RV.fresh xs).hold = .d (.list xs) := id rfl
theorem e_h_s : (RV.sl i).hold = .sl i := id rfl
theorem e_h_b : RV.bx.hold = .bx := id rfl
def atK (o : Option (Option SV)) : Option (List PyData) := match o with
  | some (some (.own xs)) => some xs
  | _ => none
theorem e_at1 : atK (some (some (.own xs))) = some xs := id rfl
theorem e_at : s.at i = atK (s.e[i]?) := id rfl
def lmK (o : Option (List PyData)) : Option PyData := o.map .list
theorem e_lm : lmK (some xs) = some (.list xs) := id rfl
theorem e_d_d : (RV.d x).dat s = some x := id rfl
theorem e_d_f : (RV.fresh xs).dat s = some (.list xs) := id rfl
theorem e_d_s : (RV.sl i).dat s = lmK (s.at i) := id rfl
theorem e_d_b : RV.bx.dat s = some (.list (s.b.map .int)) := id rfl
def tsK (i : Nat) (s : SS) (o : Option (List PyData)) : Option (PyData × SS) := o.map fun xs => (.list xs, ⟨s.e.set i (some (.d (.list xs))), s.b⟩)
theorem e_ts : tsK i s (some xs) = some (.list xs, ⟨s.e.set i (some (.d (.list xs))), s.b⟩) := id rfl
theorem e_t_d : (RV.d x).take s = some (x, s) := id rfl
theorem e_t_f : (RV.fresh xs).take s = some (.list xs, s) := id rfl
theorem e_t_s : (RV.sl i).take s = tsK i s (s.at i) := id rfl
theorem e_p_d : (PV.d x).rv = .d x := id rfl
theorem e_p_l : (PV.l xs).rv = .fresh xs := id rfl
theorem e_p_t : (PV.t xs).rv = .d (.tuple xs) := id rfl
theorem e_put_d : s.put i (.d x) = some ⟨s.e.set i (some (.d x)), s.b⟩ := id rfl
theorem e_put_f : s.put i (.fresh xs) = some ⟨s.e.set i (some (.own xs)), s.b⟩ := id rfl
theorem e_put_b : s.put i .bx = some ⟨s.e.set i (some .bx), s.b⟩ := id rfl
def bxK (i j : Nat) (o : Option (RV × SS)) : Option (OutS × SS) := o.bind fun p => match p.1, p.2.e[i]? with
  | .d (.int n), some (some .bx) => if j < p.2.b.length then some (.nx, ⟨p.2.e, p.2.b.set j n⟩) else none
  | _, _ => none
theorem e_bx1 {n : Int} (h : s1.e[i]? = some (some .bx)) : bxK i j (some (.d (.int n), s1)) = if j < s1.b.length then some (.nx, ⟨s1.e, s1.b.set j n⟩) else none := by
  show (match (RV.d (.int n)), s1.e[i]? with
    | .d (.int n), some (some .bx) => if j < s1.b.length then some (OutS.nx, (⟨s1.e, s1.b.set j n⟩ : SS)) else none
    | _, _ => none) = _
  rw [h]
theorem e_bx : dBoxSet i j f s = bxK i j (f s) := id rfl
def apK2 (i : Nat) (x : PyData) (s : SS) (o : Option (List PyData)) : Option (OutS × SS) := o.bind fun xs => if xs.length < 100000 then some (.nx, ⟨s.e.set i (some (.own (xs ++ [x]))), s.b⟩) else none
theorem e_ap2 : apK2 i x s (some xs) = if xs.length < 100000 then some (.nx, ⟨s.e.set i (some (.own (xs ++ [x]))), s.b⟩) else none := id rfl
def apK1 (i : Nat) (o : Option (PyData × SS)) : Option (OutS × SS) := o.bind fun q => apK2 i q.1 q.2 (q.2.at i)
theorem e_ap1 : apK1 i (some (x, s2)) = apK2 i x s2 (s2.at i) := id rfl
def apK0 (i : Nat) (o : Option (RV × SS)) : Option (OutS × SS) := o.bind fun p => apK1 i (p.1.hold.take p.2)
theorem e_ap0 : apK0 i (some (r, s1)) = apK1 i (r.hold.take s1) := id rfl
def apK (i : Nat) (f : DF) (s : SS) (o : Option (List PyData)) : Option (OutS × SS) := o.bind fun _ => apK0 i (f s)
theorem e_apS : apK i f s (some xs) = apK0 i (f s) := id rfl
theorem e_ap : dApp i f s = apK i f s (s.at i) := id rfl
def argK2 (w : SV) (o : Option (List SV × SS)) : Option (List SV × SS) := o.map fun q => (w :: q.1, q.2)
theorem e_arg2 : argK2 w (some (as, s2)) = some (w :: as, s2) := id rfl
def argK (rs : List RV) (o : Option (PyData × SS)) : Option (List SV × SS) := o.bind fun p => argK2 (.d p.1) (argAll rs p.2)
theorem e_arg1 : argK rs (some (x, s1)) = argK2 (.d x) (argAll rs s1) := id rfl
theorem e_arg0 : argAll [] s = some ([], s) := id rfl
theorem e_arg_b : argAll (.bx :: rs) s = argK2 .bx (argAll rs s) := id rfl
theorem e_arg_d : argAll (.d x :: rs) s = argK rs ((RV.d x).take s) := id rfl
theorem e_arg_s : argAll (.sl i :: rs) s = argK rs ((RV.sl i).take s) := id rfl
def clK3 (e : List (Option SV)) (o : Option (SV × List Int)) : Option (RV × SS) := o.map fun r => (r.1.rv, ⟨e, r.2⟩)
theorem e_cl3 : clK3 e (some (w, bs)) = some (w.rv, ⟨e, bs⟩) := id rfl
def clK2 (F : DFun) (o : Option (List SV × SS)) : Option (RV × SS) := o.bind fun q => clK3 q.2.e (F q.1 q.2.b)
theorem e_cl2 : clK2 F (some (as, s2)) = clK3 s2.e (F as s2.b) := id rfl
def clK (F : DFun) (o : Option (List RV × SS)) : Option (RV × SS) := o.bind fun p => clK2 F (argAll p.1 p.2)
theorem e_cl1 : clK F (some (rs, s1)) = clK2 F (argAll rs s1) := id rfl
theorem e_cl : dCall F fa s = clK F (fa s) := id rfl
theorem e_rv_d : (SV.d x).rv = .d x := id rfl
theorem e_rv_o : (SV.own xs).rv = .fresh xs := id rfl
theorem e_rv_b : SV.bx.rv = .bx := id rfl
def dfK2 (bs : List Int) (o : Option SV) : Option (SV × List Int) := o.map fun w => (w, bs)
theorem e_df2 : dfK2 bs (some w) = some (w, bs) := id rfl
def dfK (o : Option (OutS × SS)) : Option (SV × List Int) := o.bind fun p => match p.1 with
  | .nx => some (.d .none, p.2.b)
  | .rt r => dfK2 p.2.b (r.ret p.2)
  | _ => none
theorem e_df_r : dfK (some (.rt r, s1)) = dfK2 s1.b (r.ret s1) := id rfl
theorem e_df_n : dfK (some (.nx, s1)) = some (.d .none, s1.b) := id rfl
theorem e_df : defOf m fs as bs = dfK (fs ⟨as.map some ++ List.replicate m none, bs⟩) := id rfl
def omK (o : Option (List PyData)) : Option SV := o.map .own
theorem e_om : omK (some xs) = some (.own xs) := id rfl
theorem e_r_d : (RV.d x).ret s = some (.d x) := id rfl
theorem e_r_f : (RV.fresh xs).ret s = some (.own xs) := id rfl
theorem e_r_s : (RV.sl i).ret s = omK (s.at i) := id rfl
theorem e_r_b : RV.bx.ret s = some .bx := id rfl
def ffK (g : DG) (body : DS) (xs : List PyData) (o : Option (OutS × SS)) : Option (OutS × SS) := o.bind fun p => match p.1 with
  | .nx => forFold g body xs p.2
  | .ct => forFold g body xs p.2
  | .bk => some (.nx, p.2)
  | .rt r => some (.rt r, p.2)
theorem e_ff_n : ffK gt fs xs (some (.nx, s1)) = forFold gt fs xs s1 := id rfl
theorem e_ff_c : ffK gt fs xs (some (.ct, s1)) = forFold gt fs xs s1 := id rfl
theorem e_ff_b : ffK gt fs xs (some (.bk, s1)) = some (.nx, s1) := id rfl
theorem e_ff_r : ffK gt fs xs (some (.rt r, s1)) = some (.rt r, s1) := id rfl
def fgK (g : DG) (body : DS) (xs : List PyData) (o : Option SS) : Option (OutS × SS) := o.bind fun s1 => ffK g body xs (body s1)
theorem e_fg : fgK gt fs xs (some s1) = ffK gt fs xs (fs s1) := id rfl
theorem for_nil : forFold gt fs [] s = some (.nx, s) := rfl
theorem for_cons : forFold gt fs (x :: xs) s = fgK gt fs xs (gt x s) := rfl
def frK (g : DG) (body : DS) (o : Option (List PyData × SS)) : Option (OutS × SS) := o.bind fun p => forFold g body p.1 p.2
theorem e_fr1 : frK gt fs (some (xs, s1)) = forFold gt fs xs s1 := id rfl
theorem e_fr : dFor it gt fs s = frK gt fs (it s) := id rfl
theorem e_nm : dName i x s = if i < s.e.length then some ⟨s.e.set i (some (.d x)), s.b⟩ else none := id rfl
def imK (s : SS) (o : Option (List PyData)) : Option (List PyData × SS) := o.map fun xs => (xs, s)
theorem e_im : imK s (some xs) = some (xs, s) := id rfl
def itK2 (o : Option (PyData × SS)) : Option (List PyData × SS) := o.bind fun q => imK q.2 (items q.1)
theorem e_it2 : itK2 (some (x, s1)) = imK s1 (items x) := id rfl
def itK (o : Option (RV × SS)) : Option (List PyData × SS) := o.bind fun p => itK2 (p.1.hold.take p.2)
theorem e_it1 : itK (some (r, s1)) = itK2 (r.hold.take s1) := id rfl
theorem e_it : dItems f s = itK (f s) := id rfl
theorem e_i_l : items (.list xs) = some xs := id rfl
theorem e_i_t : items (.tuple xs) = some xs := id rfl
noncomputable def lcK3 (old : List (Option SV)) (vs : List Nat) (o : Option (List PyData × SS)) : Option (RV × SS) := o.bind fun r => if r.1.length < 100000 then some (.fresh r.1, ⟨restE old r.2.e vs, r.2.b⟩) else none
theorem e_lc3 : lcK3 e vs (some (xs, s1)) = if xs.length < 100000 then some (.fresh xs, ⟨restE e s1.e vs, s1.b⟩) else none := id rfl
noncomputable def lcK (vs : List Nat) (g : DG) (t : DT) (f : DF) (o : Option ((List PyData × Option Nat) × SS)) : Option (RV × SS) := o.bind fun p => lcK3 p.2.e vs (lcFold vs p.1.2 p.1.1 g t f p.1.1 (p.2.wipe vs))
theorem e_lc1 {on : Option Nat} : lcK vs gt c f (some ((xs, on), s1)) = lcK3 s1.e vs (lcFold vs on xs gt c f xs (s1.wipe vs)) := id rfl
theorem e_lc : dLc vs ito gt c f s = lcK vs gt c f (ito s) := id rfl
def ioK (o : Option (List PyData × SS)) : Option ((List PyData × Option Nat) × SS) := o.map fun p => ((p.1, none), p.2)
theorem e_io1 : ioK (some (xs, s1)) = some ((xs, none), s1) := id rfl
theorem e_io : dIo it s = ioK (it s) := id rfl
def ivK2 (s : SS) (o : Option (List PyData)) : Option ((List PyData × Option Nat) × SS) := o.map fun xs => ((xs, none), s)
theorem e_iv2 : ivK2 s (some xs) = some ((xs, none), s) := id rfl
def ivK (vs : List Nat) (i : Nat) (s : SS) (o : Option (Option SV)) : Option ((List PyData × Option Nat) × SS) := match o with
  | some (some (.d x)) => ivK2 s (items x)
  | some (some (.own xs)) => if i ∈ vs then none else some ((xs, some i), s)
  | _ => none
theorem e_iv_d : ivK vs i s (some (some (.d x))) = ivK2 s (items x) := id rfl
theorem e_iv_o : ivK vs i s (some (some (.own xs))) = if i ∈ vs then none else some ((xs, some i), s) := id rfl
theorem e_iv : dItV vs i s = ivK vs i s (s.e[i]?) := id rfl
def ch6 (op : PyData → PyData → Option PV) (s : SS) (a b : Option PyData) : Option (RV × SS) := a.bind fun y => b.bind fun z => (op y z).map fun r => (r.rv, s)
theorem e_ch6 : ch6 op s (some x) (some y) = opK4 (op x y) s := id rfl
def ch5 (op : PyData → PyData → Option PV) (r : RV) (o : Option (RV × SS)) : Option (RV × SS) := o.bind fun w => ch6 op w.2 (r.dat w.2) (w.1.hold.dat w.2)
theorem e_ch5 : ch5 op r (some (r2, s2)) = ch6 op s2 (r.dat s2) (r2.hold.dat s2) := id rfl
def ch4 (op : PyData → PyData → Option PV) (h : DF) (r : RV) (s : SS) (o : Option PV) : Option (RV × SS) := o.bind fun z => match z with
  | .d (.bool true) => ch5 op r (h s)
  | .d (.bool false) => some (.d (.bool false), s)
  | _ => none
theorem e_ch4t : ch4 op h r s (some (.d (.bool true))) = ch5 op r (h s) := id rfl
theorem e_ch4f : ch4 op h r s (some (.d (.bool false))) = some (.d (.bool false), s) := id rfl
def ch3 (op op' : PyData → PyData → Option PV) (h : DF) (r : RV) (s : SS) (a b : Option PyData) : Option (RV × SS) := a.bind fun x => b.bind fun y => ch4 op' h r s (op x y)
theorem e_ch3 : ch3 op op' h r s (some x) (some y) = ch4 op' h r s (op x y) := id rfl
def ch2 (op op' : PyData → PyData → Option PV) (h : DF) (r1 : RV) (o : Option (RV × SS)) : Option (RV × SS) := o.bind fun q => ch3 op op' h q.1.hold q.2 (r1.dat q.2) (q.1.hold.dat q.2)
theorem e_ch2 : ch2 op op' h r1 (some (r2, s2)) = ch3 op op' h r2.hold s2 (r1.dat s2) (r2.hold.dat s2) := id rfl
def ch1 (op op' : PyData → PyData → Option PV) (g h : DF) (o : Option (RV × SS)) : Option (RV × SS) := o.bind fun p => ch2 op op' h p.1.hold (g p.2)
theorem e_ch1 : ch1 op op' g h (some (r1, s1)) = ch2 op op' h r1.hold (g s1) := id rfl
theorem e_ch : dChain op op' f g h s = ch1 op op' g h (f s) := id rfl
theorem e_so_d : (RV.d x).solid = some (.d x) := id rfl
theorem e_so_f : (RV.fresh xs).solid = some (.own xs) := id rfl
def pr3 (i j : Nat) (u : SV) (a : Option SV) (s : SS) : Option (OutS × SS) := a.bind fun w => if i ≠ j ∧ i < s.e.length ∧ j < s.e.length then some (.nx, ⟨(s.e.set i (some u)).set j (some w), s.b⟩) else none
theorem e_pr3 {u : SV} : pr3 i j u (some w) s = if i ≠ j ∧ i < s.e.length ∧ j < s.e.length then some (.nx, ⟨(s.e.set i (some u)).set j (some w), s.b⟩) else none := id rfl
def pr2 (i j : Nat) (a : Option SV) (o : Option (RV × SS)) : Option (OutS × SS) := o.bind fun q => a.bind fun u => pr3 i j u q.1.solid q.2
theorem e_pr2 : pr2 i j (some w) (some (r2, s2)) = pr3 i j w r2.solid s2 := id rfl
def pr1 (i j : Nat) (g : DF) (o : Option (RV × SS)) : Option (OutS × SS) := o.bind fun p => pr2 i j p.1.solid (g p.2)
theorem e_pr1 : pr1 i j g (some (r1, s1)) = pr2 i j r1.solid (g s1) := id rfl
theorem e_pr : dPar i j f g s = pr1 i j g (f s) := id rfl
def sl4 (a b : Option Int) (x : Option PyData) (s : SS) : Option (RV × SS) := x.bind fun x => (opSl x a b).map fun z => (z.rv, s)
theorem e_sl4 {a1 a2 : Option Int} : sl4 a1 a2 (some x) s = opK4 (opSl x a1 a2) s := id rfl
def sl3 (r : RV) (a : Option Int) (o : Option (Option Int × SS)) : Option (RV × SS) := o.bind fun w => sl4 a w.1 (r.dat w.2) w.2
theorem e_sl3 {a1 a2 : Option Int} : sl3 r a1 (some (a2, s1)) = sl4 a1 a2 (r.dat s1) s1 := id rfl
def sl2 (r : RV) (hi : SS → Option (Option Int × SS)) (o : Option (Option Int × SS)) : Option (RV × SS) := o.bind fun q => sl3 r q.1 (hi q.2)
theorem e_sl2 {a1 : Option Int} {hi : SS → Option (Option Int × SS)} : sl2 r hi (some (a1, s1)) = sl3 r a1 (hi s1) := id rfl
def sl1 (lo hi : SS → Option (Option Int × SS)) (o : Option (RV × SS)) : Option (RV × SS) := o.bind fun p => sl2 p.1.hold hi (lo p.2)
theorem e_sl1 {lo hi : SS → Option (Option Int × SS)} : sl1 lo hi (some (r, s1)) = sl2 r.hold hi (lo s1) := id rfl
theorem e_sl {lo hi : SS → Option (Option Int × SS)} : dSl f lo hi s = sl1 lo hi (f s) := id rfl
theorem e_nop : dNoP s = some (none, s) := id rfl
def ptK (o : Option (RV × SS)) : Option (Option Int × SS) := o.bind fun p => match p.1 with
  | .d (.int i) => some (some i, p.2)
  | _ => none
theorem e_pt1 {n : Int} : ptK (some (.d (.int n), s1)) = some (some n, s1) := id rfl
theorem e_pt : dPart f s = ptK (f s) := id rfl
theorem o_sl_l {a1 a2 : Option Int} : opSl (.list xs) a1 a2 = some (.l (cutD xs a1 a2)) := id rfl
theorem o_sl_t {a1 a2 : Option Int} : opSl (.tuple xs) a1 a2 = some (.t (cutD xs a1 a2)) := id rfl
theorem e_yes : dYes s = some (true, s) := id rfl
theorem e_wp : s.wipe vs = ⟨wipeE s.e vs, s.b⟩ := id rfl
theorem e_wp0 : wipeE e [] = e := id rfl
theorem e_wp1 : wipeE e (i :: vs) = (wipeE e vs).set i none := id rfl
theorem e_re0 {e2 : List (Option SV)} : restE e e2 [] = e2 := id rfl
theorem e_re1 {e2 : List (Option SV)} : restE e e2 (i :: vs) = (restE e e2 vs).set i (keepD (e[i]?)) := id rfl
theorem e_kd_d : keepD (some (some (.d x))) = some (.d x) := id rfl
theorem e_kd_o : keepD (some (some (.own xs))) = none := id rfl
theorem e_kd_b : keepD (some (some .bx)) = none := id rfl
theorem e_kd_n : keepD (some none) = none := id rfl
theorem o_add_i {a b : Int} : opAdd (.int a) (.int b) = some (.d (.int (a + b))) := id rfl
theorem o_add_s {a b : Str} : opAdd (.str a) (.str b) = if a.length + b.length ≤ 100000 then some (.d (.str (a ++ b))) else none := id rfl
theorem o_add_l : opAdd (.list xs) (.list ys) = if xs.length + ys.length ≤ 100000 then some (.l (xs ++ ys)) else none := id rfl
theorem o_add_t : opAdd (.tuple xs) (.tuple ys) = if xs.length + ys.length ≤ 100000 then some (.t (xs ++ ys)) else none := id rfl
theorem o_sub {a b : Int} : opSub (.int a) (.int b) = some (.d (.int (a - b))) := id rfl
theorem o_mul {a b : Int} : opMul (.int a) (.int b) = if (-(2 ^ 64) < a ∧ a < 2 ^ 64) ∨ (-(2 ^ 64) < b ∧ b < 2 ^ 64) then some (.d (.int (a * b))) else none := id rfl
theorem o_div {a b : Int} : opDiv (.int a) (.int b) = if 0 < b ∧ b.natAbs < 2 ^ 8000 then some (.d (.int (a / b))) else none := id rfl
theorem o_mod {a b : Int} : opMod (.int a) (.int b) = if 0 < b then some (.d (.int (a % b))) else none := id rfl
theorem o_pow {a b : Int} : opPow (.int a) (.int b) = if 0 ≤ b ∧ b ≤ 1000 ∧ a.natAbs < 2 ^ 64 then some (.d (.int (a ^ b.toNat))) else none := id rfl
theorem o_lt_i {a b : Int} : opLt (.int a) (.int b) = some (.d (.bool (decide (a < b)))) := id rfl
theorem o_lt_s {a b : Str} : opLt (.str a) (.str b) = some (.d (.bool (decide (a.cps.toList < b.cps.toList)))) := id rfl
theorem o_le_i {a b : Int} : opLe (.int a) (.int b) = some (.d (.bool (decide (a ≤ b)))) := id rfl
theorem o_le_s {a b : Str} : opLe (.str a) (.str b) = some (.d (.bool (!decide (b.cps.toList < a.cps.toList)))) := id rfl
theorem o_gt_i {a b : Int} : opGt (.int a) (.int b) = some (.d (.bool (decide (b < a)))) := id rfl
theorem o_ge_i {a b : Int} : opGe (.int a) (.int b) = some (.d (.bool (decide (b ≤ a)))) := id rfl
def ixK (o : Option PyData) : Option PV := o.map .d
theorem o_ix_l {i : Int} : opIx (.list xs) (.int i) = ixK (atI xs i) := id rfl
theorem o_ix_t {i : Int} : opIx (.tuple xs) (.int i) = ixK (atI xs i) := id rfl
theorem o_ixK : ixK (some x) = some (.d x) := id rfl
theorem o_len_l : opLen [.list xs] = some (.d (.int xs.length)) := id rfl
theorem o_len_t : opLen [.tuple xs] = some (.d (.int xs.length)) := id rfl
theorem o_len_s {z : Str} : opLen [.str z] = if z.length ≤ 100000 then some (.d (.int z.length)) else none := id rfl
theorem o_int_i {i : Int} : opInt [.int i] = some (.d (.int i)) := id rfl
theorem o_int_b : opInt [.bool b] = some (.d (.int (if b then 1 else 0))) := id rfl
theorem o_abs {i : Int} : opAbs [.int i] = some (.d (.int (if i < 0 then -i else i))) := id rfl
theorem o_max {i j : Int} : opMax [.int i, .int j] = some (.d (.int (if j > i then j else i))) := id rfl
theorem o_min {i j : Int} : opMin [.int i, .int j] = some (.d (.int (if j < i then j else i))) := id rfl
theorem o_lst_l : opList [.list xs] = some (.l xs) := id rfl
theorem o_lst_t : opList [.tuple xs] = some (.l xs) := id rfl
theorem o_tup_l : opTup [.list xs] = some (.t xs) := id rfl
theorem o_tup_t : opTup [.tuple xs] = some (.d (.tuple xs)) := id rfl
end
end XN

set_option maxRecDepth 100000
set_option maxHeartbeats 4000000
/-! the law's own def, by its address; the end -/
namespace XN
open PySem PySem.Spec PyProof.Rows L2 Evl
theorem fng_def {P : Program} {w : World} {K : PySem.W.Frag} {mg : Str → Option Value} {base : Heap} {k m : Nat} {x : Str} {qual : Str} {stm : Stmt} {fa : Addr} {fd : FuncData} {N ps : List Str} {g : DS} (F : Fun K x qual stm fa fd) (S : FnScope N ps (defScope stm)) (hN : N.length = ps.length + m)
    (body : ∀ (cdv : Value) (A : Around) (outer : List Env) (s : Shared) (H : Hp) (E : XK), A.guards = some [] → Room k (A.deeper (envOfC qual (defScope stm) s.heap.objs.size fa cdv)) → ∃ ts, DSs (cxOf CX0 P w K mg base N qual (defScope stm) fa cdv A outer s H E).nox (defBody stm) ts g) :
    XG.FnG P w K mg base CX0 (k + 1) fa fd ps (spD K ps.length (defOf m g)) := by
  refine XG.fun_g F S (fun vs H Q E h => ?_) fun cdv A outer s H vs Q E hg hr h => ?_
  · obtain ⟨B, Fr, H0, as, b, r, b', R, hn, _⟩ := h
    exact hn
  · obtain ⟨ts, D⟩ := body cdv A outer s H E hg hr
    refine ⟨ts K, D.ps, ?_⟩
    have hn : vs.length = ps.length := by
      obtain ⟨B, Fr, H0, as, b, r, b', R, hn, _⟩ := h
      exact hn
    have e : L2.start N vs = vs.map some ++ List.replicate m none := by
      unfold L2.start
      rw [hN, hn, Nat.add_sub_cancel_left]
    rw [e]
    exact den_def (E := E) D.den h
theorem sq_lst {K : PySem.W.Frag} {H : Hp} {a : Addr} {vs : List V} {ds : List PyData} (h : SqL K H a vs) (d : DpAll K H vs ds) : Dp K H (.ref a) (.list ds) := .lst h d
/-- what is asked of the law at a script -/
theorem ask_of {K : PySem.W.Frag} {F : DFun} {H : Hp} {a : Addr} {ns : List Int} (S : SqL K H a (ns.map V.int)) (e : F [.d (.list (ns.map .int))] [] = some (.d (.bool true), [])) :
    spD K 1 F [.ref a] H (fun v _ => v = .bl true) fun _ _ _ => False := by
  refine ⟨none, fun _ => none, H, [.d (.list (ns.map .int))], [], .d (.bool true), [], ?_, rfl, e, fun v H' H0' _ R => ?_⟩
  · refine { e0 := Ex.refl _, ef := fun _ _ h => (by cases h), dj := fun _ _ h => (by cases h), box := fun _ h => (by cases h), len := rfl, bb := fun _ => rfl, sl := fun i v h => ?_, ne := fun i j xs ys p _ hi _ => ?_ }
    · cases i with
      | zero =>
        cases h
        exact ⟨.ref a, rfl, .lst S (dpa_ints ns)⟩
      | succ i => cases h
    · cases i with
      | zero => cases hi
      | succ i => cases hi
  · obtain ⟨v', hv, hd⟩ := R.sl 0 _ rfl
    cases hv
    cases hd
    rfl
end XN

set_option maxRecDepth 100000
set_option maxHeartbeats 4000000
/-! names, lots, rows of lots as data -/
namespace XN
open PySem PySem.Spec PyProof.Rows L2 Evl

theorem ix_0 {α : Type} (x : α) (xs : List α) : atI (x :: xs) 0 = some x := by
  unfold atI ixN
  simp
theorem ix_1 {α : Type} (x y z : α) : atI [x, y, z] 1 = some y := rfl
theorem ix_2 {α : Type} (x y z : α) : atI [x, y, z] 2 = some z := rfl
theorem pow_small {n : Int} (h0 : 0 ≤ n) (h : n < 1000000000) : n.natAbs < 2 ^ 8000 := by
  have e : (2 : Nat) ^ 8000 = 2 ^ 30 * 2 ^ 7970 := by rw [← Nat.pow_add]
  have p : 0 < (2 : Nat) ^ 7970 := Nat.pow_pos (by decide)
  rw [e]
  generalize (2 : Nat) ^ 7970 = q at p
  have : n.natAbs < 2 ^ 30 := by omega
  exact Nat.lt_of_lt_of_le this (Nat.le_mul_of_pos_right _ p)

def lotD (l : List Str) : PyData := .tuple (l.map .str)
abbrev lotsD (ls : List (List Str)) : List PyData := ls.map lotD
def strsD (l : List Str) : List PyData := l.map .str
def Oks (l : List Str) : Prop := ∀ z ∈ l, PyData.strOk z = true
theorem str_inj {x y : Str} (h : PyData.str x = PyData.str y) : x = y := PyData.str.inj h
theorem strsD_inj : ∀ {x y : List Str}, strsD x = strsD y → x = y
  | [], [], _ => rfl
  | [], _ :: _, h => by cases h
  | _ :: _, [], h => by cases h
  | a :: x, b :: y, h => by
    have h1 := (List.cons.inj h).1
    have h2 := (List.cons.inj h).2
    rw [str_inj h1, strsD_inj h2]
theorem lotD_inj {x y : List Str} (h : lotD x = lotD y) : x = y := strsD_inj (PyData.tuple.inj h)
theorem eqv_str (x y : Str) : PyData.eqv (.str x) (.str y) = decide (x = y) := by
  simp only [PyData.eqv]
  by_cases h : x = y
  · rw [h]
    simp
  · rw [decide_eq_false h]
    exact beq_eq_false_iff_ne.mpr h
theorem eqv_strs : ∀ (x y : List Str), PyData.eqvAll (strsD x) (strsD y) = decide (x = y)
  | [], [] => by simp [strsD, PyData.eqvAll]
  | [], _ :: _ => by simp [strsD, PyData.eqvAll]
  | _ :: _, [] => by simp [strsD, PyData.eqvAll]
  | a :: x, b :: y => by
    show PyData.eqvAll (.str a :: strsD x) (.str b :: strsD y) = _
    rw [PyData.eqvAll, eqv_str, eqv_strs x y]
    by_cases h1 : a = b
    · by_cases h2 : x = y
      · simp [h1, h2]
      · simp [h1, h2]
    · simp [h1]
theorem eqv_lot (x y : List Str) : PyData.eqv (lotD x) (lotD y) = decide (x = y) := by
  show PyData.eqv (.tuple (strsD x)) (.tuple (strsD y)) = _
  rw [PyData.eqv]
  exact eqv_strs x y
theorem lay_strs : ∀ {l : List Str}, Oks l → PyData.canLayAll0 (strsD l) = true
  | [], _ => by simp [strsD, PyData.canLayAll0]
  | z :: l, h => by
    show PyData.canLayAll0 (.str z :: strsD l) = true
    rw [PyData.canLayAll0, PyData.canLay0, h z (List.mem_cons_self ..), lay_strs fun y m => h y (List.mem_cons_of_mem _ m)]
    rfl
theorem depth_strs : ∀ l : List Str, PyData.depthAll (strsD l) = 0
  | [] => by simp [strsD, PyData.depthAll]
  | z :: l => by
    show PyData.depthAll (.str z :: strsD l) = 0
    rw [PyData.depthAll, PyData.depth, depth_strs l]
    rfl
theorem shaped_str {z : Str} (h : PyData.strOk z = true) : SeqAt.shaped (.str z) = true := by
  show (PyData.canLay0 (.str z) && decide (PyData.depth (.str z) ≤ 64)) = true
  rw [PyData.canLay0, h, PyData.depth]
  rfl
theorem depth_lot (l : List Str) : (lotD l).depth = 1 := by
  show PyData.depth (.tuple (strsD l)) = 1
  rw [PyData.depth, depth_strs]
theorem shaped_lot {l : List Str} (h : Oks l) : SeqAt.shaped (lotD l) = true := by
  show (PyData.canLay0 (.tuple (strsD l)) && decide (PyData.depth (lotD l) ≤ 64)) = true
  rw [PyData.canLay0, lay_strs h, depth_lot]
  rfl
theorem shaped_strl {l : List Str} (h : Oks l) : SeqAt.shaped (.list (strsD l)) = true := by
  show (PyData.canLay0 (.list (strsD l)) && decide (PyData.depth (.list (strsD l)) ≤ 64)) = true
  rw [PyData.canLay0, lay_strs h, PyData.depth, depth_strs]
  rfl
theorem lay_lots : ∀ {ls : List (List Str)}, (∀ l ∈ ls, Oks l) → PyData.canLayAll0 (lotsD ls) = true
  | [], _ => by simp [PyData.canLayAll0]
  | l :: ls, h => by
    show PyData.canLayAll0 (lotD l :: lotsD ls) = true
    rw [PyData.canLayAll0, lay_lots fun y m => h y (List.mem_cons_of_mem _ m)]
    show (PyData.canLay0 (.tuple (strsD l)) && true) = true
    rw [PyData.canLay0, lay_strs (h l (List.mem_cons_self ..))]
    rfl
theorem depth_lots : ∀ ls : List (List Str), PyData.depthAll (lotsD ls) ≤ 1
  | [] => by simp [PyData.depthAll]
  | l :: ls => by
    show PyData.depthAll (lotD l :: lotsD ls) ≤ 1
    rw [PyData.depthAll, depth_lot]
    have := depth_lots ls
    omega
theorem shaped_lots {ls : List (List Str)} (h : ∀ l ∈ ls, Oks l) : SeqAt.shaped (.list (lotsD ls)) = true := by
  have d := depth_lots ls
  show (PyData.canLay0 (.list (lotsD ls)) && decide (PyData.depth (.list (lotsD ls)) ≤ 64)) = true
  rw [PyData.canLay0, lay_lots h, PyData.depth, Bool.true_and]
  exact decide_eq_true (by omega)
theorem any_str (a : Str) : ∀ l : List Str, ((strsD l).any fun z => PyData.eqv z (.str a)) = decide (a ∈ l)
  | [] => by simp [strsD]
  | z :: l => by
    show ((PyData.str z :: strsD l).any fun z => PyData.eqv z (.str a)) = _
    rw [List.any_cons, any_str a l, eqv_str]
    by_cases h : z = a
    · simp [h]
    · have : ¬ a = z := fun e => h e.symm
      simp [h, this]
theorem any_lot (a : List Str) : ∀ ls : List (List Str), ((lotsD ls).any fun z => PyData.eqv z (lotD a)) = decide (a ∈ ls)
  | [] => by simp
  | z :: l => by
    show ((lotD z :: lotsD l).any fun z => PyData.eqv z (lotD a)) = _
    rw [List.any_cons, any_lot a l, eqv_lot]
    by_cases h : z = a
    · simp [h]
    · have : ¬ a = z := fun e => h e.symm
      simp [h, this]
theorem in_lot {a : Str} {l : List Str} (ha : PyData.strOk a = true) (hl : Oks l) : opIn (.str a) (lotD l) = some (.d (.bool (decide (a ∈ l)))) := by
  show (if SeqAt.shaped (.str a) = true ∧ SeqAt.shaped (lotD l) = true then some (PV.d (.bool ((strsD l).any fun z => PyData.eqv z (.str a)))) else none) = _
  rw [if_pos ⟨shaped_str ha, shaped_lot hl⟩, any_str]
theorem ni_lot {a : Str} {l : List Str} (ha : PyData.strOk a = true) (hl : Oks l) : opNi (.str a) (lotD l) = some (.d (.bool (!decide (a ∈ l)))) := by
  show (if SeqAt.shaped (.str a) = true ∧ SeqAt.shaped (lotD l) = true then some (PV.d (.bool (!(strsD l).any fun z => PyData.eqv z (.str a)))) else none) = _
  rw [if_pos ⟨shaped_str ha, shaped_lot hl⟩, any_str]
theorem ni_strs {a : Str} {l : List Str} (ha : PyData.strOk a = true) (hl : Oks l) : opNi (.str a) (.list (strsD l)) = some (.d (.bool (!decide (a ∈ l)))) := by
  show (if SeqAt.shaped (.str a) = true ∧ SeqAt.shaped (.list (strsD l)) = true then some (PV.d (.bool (!(strsD l).any fun z => PyData.eqv z (.str a)))) else none) = _
  rw [if_pos ⟨shaped_str ha, shaped_strl hl⟩, any_str]
theorem in_lots {a : List Str} {ls : List (List Str)} (ha : Oks a) (hl : ∀ l ∈ ls, Oks l) : opIn (lotD a) (.list (lotsD ls)) = some (.d (.bool (decide (a ∈ ls)))) := by
  show (if SeqAt.shaped (lotD a) = true ∧ SeqAt.shaped (.list (lotsD ls)) = true then some (PV.d (.bool ((lotsD ls).any fun z => PyData.eqv z (lotD a)))) else none) = _
  rw [if_pos ⟨shaped_lot ha, shaped_lots hl⟩, any_lot]

/-! ### a comprehension that changes nothing -/
theorem lc_map {vs : List Nat} {on : Option Nat} {all : List PyData} {i : Nat} {c : DT} {f : DF} {e : List (Option SV)} {b : List Int} (p : PyData → Bool) (q : PyData → PyData) (ck : Chk on all ⟨e, b⟩) (hi : i < e.length) (hw : ∀ x, wipeE (e.set i (some (.d x))) vs = e) :
    ∀ (xs : List PyData), (∀ x ∈ xs, c ⟨e.set i (some (.d x)), b⟩ = some (p x, ⟨e.set i (some (.d x)), b⟩)) → (∀ x ∈ xs, p x = true → ∃ r, f ⟨e.set i (some (.d x)), b⟩ = some (r, ⟨e.set i (some (.d x)), b⟩) ∧ r.hold.take ⟨e.set i (some (.d x)), b⟩ = some (q x, ⟨e.set i (some (.d x)), b⟩)) →
      lcFold vs on all (dName i) c f xs ⟨e, b⟩ = some ((xs.filter p).map q, ⟨e, b⟩)
  | [], _, _ => by
    unfold lcFold
    rw [if_pos ck]
    rfl
  | x :: xs, hc, hf => by
    have ih := lc_map p q ck hi hw xs (fun y m => hc y (List.mem_cons_of_mem _ m)) fun y m => hf y (List.mem_cons_of_mem _ m)
    have h1 : dName i x ⟨e, b⟩ = some ⟨e.set i (some (.d x)), b⟩ := by
      unfold dName
      rw [if_pos hi]
    have h2 := hc x (List.mem_cons_self ..)
    have w : (SS.mk (e.set i (some (.d x))) b).wipe vs = ⟨e, b⟩ := by
      show (⟨wipeE (e.set i (some (.d x))) vs, b⟩ : SS) = _
      rw [hw]
    unfold lcFold
    rw [if_pos ck, h1]
    show ((c ⟨e.set i (some (.d x)), b⟩).bind _) = _
    rw [h2]
    show (if p x = true then _ else _) = _
    cases hp : p x with
    | false =>
      rw [if_neg (by decide)]
      show lcFold vs on all (dName i) c f xs ((SS.mk (e.set i (some (.d x))) b).wipe vs) = _
      rw [w, ih, List.filter_cons, hp]
      rfl
    | true =>
      obtain ⟨r, h3, h4⟩ := hf x (List.mem_cons_self ..) hp
      rw [if_pos rfl]
      show ((f ⟨e.set i (some (.d x)), b⟩).bind _) = _
      rw [h3]
      show ((r.hold.take ⟨e.set i (some (.d x)), b⟩).bind _) = _
      rw [h4]
      show ((lcFold vs on all (dName i) c f xs ((SS.mk (e.set i (some (.d x))) b).wipe vs)).map _) = _
      rw [w, ih, List.filter_cons, hp]
      rfl
theorem chk_none {xs : List PyData} {s : SS} : Chk none xs s := fun _ h => nomatch h
end XN

set_option maxRecDepth 100000
set_option maxHeartbeats 4000000
/-! sorted rows of names and of lots -/
namespace XN
open PySem PySem.Spec PyProof.Rows PySem.W L2 Evl XD

def sLe (a b : Str) : Bool := XC.dle (.str a) (.str b)
def lLe (a b : List Str) : Bool := XC.dle (lotD a) (lotD b)
def sortS (l : List Str) : List Str := l.mergeSort sLe
def sortL (ls : List (List Str)) : List (List Str) := ls.mergeSort lLe
theorem srt_strs (l : List Str) : XC.srt (strsD l) = strsD (sortS l) := (sort_maps (r := sLe) (s := XC.dle) PyData.str (l := l) fun _ _ _ _ => rfl).symm
theorem srt_lots (ls : List (List Str)) : XC.srt (lotsD ls) = lotsD (sortL ls) := (sort_maps (r := lLe) (s := XC.dle) lotD (l := ls) fun _ _ _ _ => rfl).symm
theorem alike_strs : ∀ (x y : List Str), alikeAll (strsD x) (strsD y) = true
  | [], _ => by simp [strsD, alikeAll]
  | a :: x, [] => by simp [strsD, alikeAll]
  | a :: x, b :: y => by
    show alikeAll (.str a :: strsD x) (.str b :: strsD y) = true
    rw [alikeAll, alike_strs x y]
    simp [alike]
theorem srtbl_strs (l : List Str) : XC.Srtbl (strsD l) where
  alike := fun d hd d' hd' => by
    obtain ⟨x, _, rfl⟩ := List.mem_map.mp hd
    obtain ⟨y, _, rfl⟩ := List.mem_map.mp hd'
    simp [alike]
  kind := .inr fun d hd => by
    obtain ⟨x, _, rfl⟩ := List.mem_map.mp hd
    exact ⟨nofun, fun _ => nofun⟩
  deep := fun d hd => by
    obtain ⟨x, _, rfl⟩ := List.mem_map.mp hd
    simp [PyData.depth]
theorem srtbl_lots (ls : List (List Str)) : XC.Srtbl (lotsD ls) where
  alike := fun d hd d' hd' => by
    obtain ⟨x, _, rfl⟩ := List.mem_map.mp hd
    obtain ⟨y, _, rfl⟩ := List.mem_map.mp hd'
    show PySem.W.alike (.tuple (strsD x)) (.tuple (strsD y)) = true
    rw [PySem.W.alike]
    exact alike_strs x y
  kind := .inl fun d hd => by
    obtain ⟨x, _, rfl⟩ := List.mem_map.mp hd
    exact ⟨_, rfl⟩
  deep := fun d hd => by
    obtain ⟨x, _, rfl⟩ := List.mem_map.mp hd
    rw [depth_lot]
    omega
theorem sort_lots_op (ls : List (List Str)) : opSort [.list (lotsD ls)] = some (.l (lotsD (sortL ls))) := by
  unfold opSort
  dsimp only
  rw [if_pos (srtbl_lots ls), srt_lots]
theorem sort_strs_op (l : List Str) : opSort [.list (strsD l)] = some (.l (strsD (sortS l))) := by
  unfold opSort
  dsimp only
  rw [if_pos (srtbl_strs l), srt_strs]
theorem keysOf_strs : ∀ l : List Str, keysOf (strsD l) = some (l.map Sum.inr)
  | [] => rfl
  | z :: l => by
    show (keyOf (.str z)).bind (fun k => (keysOf (strsD l)).map fun ks => k :: ks) = _
    rw [keysOf_strs l]
    rfl
theorem undup_map {α β : Type} [DecidableEq α] [DecidableEq β] {f : α → β} (hf : ∀ a b, f a = f b → a = b) : ∀ l : List α, undup (l.map f) = (undup l).map f
  | [] => rfl
  | x :: l => by
    have ih := undup_map hf l
    have e : f x ∈ undup (l.map f) ↔ x ∈ undup l := by
      rw [ih, List.mem_map]
      exact ⟨fun ⟨a, ha, h⟩ => by rw [← hf a x h]; exact ha, fun h => ⟨x, h, rfl⟩⟩
    rw [List.map_cons]
    unfold undup
    by_cases h : x ∈ undup l
    · rw [if_pos (e.mpr h), if_pos h, ih]
    · rw [if_neg fun q => h (e.mp q), if_neg h, ih, List.map_cons]
theorem ss_strs {l : List Str} (few : l.length < 64) : opSS (.tuple (strsD l)) = some (.l (strsD (sortS (undup l)))) := by
  have hl : (strsD l).length < 64 := by
    show (l.map PyData.str).length < 64
    rw [List.length_map]
    exact few
  unfold opSS
  show ((some (strsD l)).bind _) = _
  rw [Option.bind_some]
  rw [if_pos ⟨hl, srtbl_strs l⟩, keysOf_strs]
  show some (PV.l (XC.srt ((undup (l.map Sum.inr)).map kD))) = _
  rw [undup_map (f := (Sum.inr : Str → Key)) (fun a b h => Sum.inr.inj h), List.map_map]
  show some (PV.l (XC.srt (strsD (undup l)))) = _
  rw [srt_strs]
/-- orders -/
theorem sLe_anti {a b : Str} (h1 : sLe a b = true) (h2 : sLe b a = true) : a = b := by
  have := toks_kD (a := Sum.inr a) (b := Sum.inr b) (dle_anti h1 h2)
  exact Sum.inr.inj this
theorem lLe_anti {a b : List Str} (h1 : lLe a b = true) (h2 : lLe b a = true) : a = b := by
  have e : ∀ l : List Str, lotD l = tD (l.map Sum.inr) := fun l => by
    show PyData.tuple (l.map PyData.str) = .tuple ((l.map Sum.inr).map kD)
    rw [List.map_map]
    rfl
  unfold lLe at h1 h2
  rw [e a, e b] at h1 h2
  have := toks_tD (dle_anti h1 h2)
  exact (List.map_inj_right (fun a b h => Sum.inr.inj h)).mp this
theorem sLe_total : TotalLe sLe := ⟨fun a b c h1 h2 => XC.dle_total.trans _ _ _ h1 h2, fun a b => XC.dle_total.total _ _⟩
theorem lLe_total : TotalLe lLe := ⟨fun a b c h1 h2 => XC.dle_total.trans _ _ _ h1 h2, fun a b => XC.dle_total.total _ _⟩
theorem sortS_perm (l : List Str) : (sortS l).Perm l := List.mergeSort_perm _ _
theorem sortL_perm (l : List (List Str)) : (sortL l).Perm l := List.mergeSort_perm _ _
theorem sortS_sorted (l : List Str) : (sortS l).Pairwise fun a b => sLe a b = true := sort_pairwise sLe_total l
theorem sortL_sorted (l : List (List Str)) : (sortL l).Pairwise fun a b => lLe a b = true := sort_pairwise lLe_total l
theorem sortS_of {l l' : List Str} (p : l'.Perm l) (s : l'.Pairwise fun a b => sLe a b = true) : l' = sortS l := sorted_unique (fun _ _ _ _ => sLe_anti) (p.trans (sortS_perm l).symm) s (sortS_sorted l)
theorem sortL_of {l l' : List (List Str)} (p : l'.Perm l) (s : l'.Pairwise fun a b => lLe a b = true) : l' = sortL l := sorted_unique (fun _ _ _ _ => lLe_anti) (p.trans (sortL_perm l).symm) s (sortL_sorted l)
theorem sortS_eq {l l' : List Str} (p : l.Perm l') : sortS l = sortS l' := sortS_of ((sortS_perm l).trans p) (sortS_sorted l)
theorem sortL_eq {l l' : List (List Str)} (p : l.Perm l') : sortL l = sortL l' := sortL_of ((sortL_perm l).trans p) (sortL_sorted l)
end XN

set_option maxRecDepth 100000
set_option maxHeartbeats 4000000
namespace XN
open PySem PySem.Spec PyProof.Rows L2 Evl
def topS (i : Nat) : Stmt := PySem.Challenge.pw_stopsfirst_k01_lots_and_their_parts.main.body.getD i (.Pass ⟨0, 0, 0, 0⟩)
abbrev s_is_name : Stmt := topS 1
theorem sc_is_name : FnScope ["value", "letter"] ["value"] (defScope s_is_name) := ⟨rfl, rfl, rfl, by decide +kernel, rfl, by decide +kernel, by decide +kernel⟩
noncomputable def g_is_name : DS :=
  (dSeq (dIfS (dOr (dNot (dTest (dUn (opIsi "str") (dV 0)))) (dNot (dTest (dChain opLe opLe (dC (.int 1)) (dCB opLen (dCons (dV 0) dNil)) (dC (.int 5)))))) (dRet (dC (.bool false))) dNx)
  (dSeq (dFor (dItems (dV 0)) (dName 1) (dIfS (dNot (dTest (dChain opLe opLe (dC (.str "a")) (dV 1) (dC (.str "z"))))) (dRet (dC (.bool false))) dNx))
  (dRet (dC (.bool true)))))
noncomputable def f_is_name : DFun := defOf 1 g_is_name
theorem has_is_name {P : Program} {w : World} {K : PySem.W.Frag} {mg : Str → Option Value} {base : Heap} {fa : Addr} {fd : FuncData} (F : Fun K "is_name" "is_name" s_is_name fa fd) (hm : mg "is_name" = some (.ref fa)) (hb : Binds K fd ["value"] []) (M : Bl mg)   : Has P w K mg base 1 "is_name" ["value"] f_is_name :=
  has_def (g := g_is_name) F hm hb sc_is_name rfl fun cdv A outer s H E hg hr => by
    have hu0 : (A.deeper (envOfC "is_name" (defScope s_is_name) s.heap.objs.size fa cdv)).units + 200 < cLine := by have := hr.un; omega
    have hu1 : (A.deeper (envOfC "is_name" (defScope s_is_name) s.heap.objs.size fa cdv)).units + 100 < cLine := by omega
    have hu2 : (A.deeper (envOfC "is_name" (defScope s_is_name) s.heap.objs.size fa cdv)).units + 64 < cLine := by omega
    have hu : (A.deeper (envOfC "is_name" (defScope s_is_name) s.heap.objs.size fa cdv)).units + 65 < cLine := by omega
    exact ⟨_, (dss_cons (ds_if (dt_w (dw_or (dt_not (dt_val (de_isi (T := "str") (by rfl) M.isinstance (by rfl) M.str_ (by decide +kernel) (de_v 0)))) (dw_or1 (dt_not (dt_chain or_le or_le de_int (de_cb cr_len (by rfl) M.len (by decide +kernel) (da_cons (de_v 0) da_nil)) de_int))))) (dss_one (ds_ret de_bl)) dss_nil)
    (dss_cons (ds_for PassesOwn.never rfl (di_any (de_v 0)) (dg_name 1 sc_is_name.nd) (dss_one (ds_if (dt_not (dt_chain or_le or_le de_str (de_v 1) de_str)) (dss_one (ds_ret de_bl)) dss_nil)))
    (dss_one (ds_ret de_bl))))⟩

abbrev s_is_lot : Stmt := topS 2
theorem sc_is_lot : FnScope ["value", "name", "at"] ["value"] (defScope s_is_lot) := ⟨rfl, rfl, rfl, by decide +kernel, rfl, by decide +kernel, by decide +kernel⟩
noncomputable def g_is_lot : DS :=
  (dSeq (dIfS (dNot (dTest (dUn (opIsi "tuple") (dV 0)))) (dRet (dC (.bool false))) dNx)
  (dSeq (dFor (dItems (dV 0)) (dName 1) (dIfS (dNot (dTest (dCall f_is_name (dCons (dV 1) dNil)))) (dRet (dC (.bool false))) dNx))
  (dSeq (dFor (dRng2 (dCons (dC (.int 1)) (dCons (dCB opLen (dCons (dV 0) dNil)) dNil))) (dName 2) (dIfS (dTest (dOp opLe (dOp opIx (dV 0) (dV 2)) (dOp opIx (dV 0) (dOp opSub (dV 2) (dC (.int 1)))))) (dRet (dC (.bool false))) dNx))
  (dRet (dC (.bool true))))))
noncomputable def f_is_lot : DFun := defOf 2 g_is_lot
theorem has_is_lot {P : Program} {w : World} {K : PySem.W.Frag} {mg : Str → Option Value} {base : Heap} {fa : Addr} {fd : FuncData} (F : Fun K "is_lot" "is_lot" s_is_lot fa fd) (hm : mg "is_lot" = some (.ref fa)) (hb : Binds K fd ["value"] []) (M : Bl mg) (h_is_name : Has P w K mg base 1 "is_name" ["value"] f_is_name)  : Has P w K mg base 2 "is_lot" ["value"] f_is_lot :=
  has_def (g := g_is_lot) F hm hb sc_is_lot rfl fun cdv A outer s H E hg hr => by
    have hu0 : (A.deeper (envOfC "is_lot" (defScope s_is_lot) s.heap.objs.size fa cdv)).units + 200 < cLine := by have := hr.un; omega
    have hu1 : (A.deeper (envOfC "is_lot" (defScope s_is_lot) s.heap.objs.size fa cdv)).units + 100 < cLine := by omega
    have hu2 : (A.deeper (envOfC "is_lot" (defScope s_is_lot) s.heap.objs.size fa cdv)).units + 64 < cLine := by omega
    have hu : (A.deeper (envOfC "is_lot" (defScope s_is_lot) s.heap.objs.size fa cdv)).units + 65 < cLine := by omega
    exact ⟨_, (dss_cons (ds_if (dt_not (dt_val (de_isi (T := "tuple") (by rfl) M.isinstance (by rfl) M.tuple_ (by decide +kernel) (de_v 0)))) (dss_one (ds_ret de_bl)) dss_nil)
    (dss_cons (ds_for PassesOwn.never rfl (di_any (de_v 0)) (dg_name 1 sc_is_lot.nd) (dss_one (ds_if (dt_not (dt_val (de_call h_is_name hg (hr.mono (by decide)) (by rfl) (da_cons (de_v 1) da_nil)))) (dss_one (ds_ret de_bl)) dss_nil)))
    (dss_cons (ds_for PassesOwn.never rfl (di_rng2 (by rfl) M.range (da_cons de_int (da_cons (de_cb cr_len (by rfl) M.len (by decide +kernel) (da_cons (de_v 0) da_nil)) da_nil))) (dg_name 2 sc_is_lot.nd) (dss_one (ds_if (dt_cmp or_le (de_ix (de_v 0) (de_v 2)) (de_ix (de_v 0) (de_bin or_sub (de_v 2) de_int))) (dss_one (ds_ret de_bl)) dss_nil)))
    (dss_one (ds_ret de_bl)))))⟩

abbrev s_common : Stmt := topS 3
theorem sc_common : FnScope ["one", "other", "name"] ["one", "other"] (defScope s_common) := ⟨rfl, rfl, rfl, by decide +kernel, rfl, by decide +kernel, by decide +kernel⟩
noncomputable def g_common : DS :=
  (dRet (dCB opTup (dCons (dLc [2] (dItV [2] 0) (dName 2) (dTest (dOp opIn (dV 2) (dV 1))) (dV 2)) dNil)))
noncomputable def f_common : DFun := defOf 1 g_common
theorem has_common {P : Program} {w : World} {K : PySem.W.Frag} {mg : Str → Option Value} {base : Heap} {fa : Addr} {fd : FuncData} (F : Fun K "common" "common" s_common fa fd) (hm : mg "common" = some (.ref fa)) (hb : Binds K fd ["one", "other"] []) (M : Bl mg)   : Has P w K mg base 1 "common" ["one", "other"] f_common :=
  has_def (g := g_common) F hm hb sc_common rfl fun cdv A outer s H E hg hr => by
    have hu0 : (A.deeper (envOfC "common" (defScope s_common) s.heap.objs.size fa cdv)).units + 200 < cLine := by have := hr.un; omega
    have hu1 : (A.deeper (envOfC "common" (defScope s_common) s.heap.objs.size fa cdv)).units + 100 < cLine := by omega
    have hu2 : (A.deeper (envOfC "common" (defScope s_common) s.heap.objs.size fa cdv)).units + 64 < cLine := by omega
    have hu : (A.deeper (envOfC "common" (defScope s_common) s.heap.objs.size fa cdv)).units + 65 < cLine := by omega
    exact ⟨_, (dss_one (ds_ret (de_ct cr_tup (by rfl) M.tuple_ (by decide +kernel) (da_cons (de_lc [("name", 2)] rfl sc_common.nd (dio_v 0) (blkOk_by (by first | rfl | decide +kernel)) (fun _ _ _ _ _ => dgw_name 2 sc_common.nd) (fun _ _ _ _ _ => (dts_one (dt_cmp (or_in hu) (de_v 2) (de_v 1)))) (fun _ _ _ _ _ => (de_v 2))) da_nil))))⟩

abbrev s_united : Stmt := topS 4
theorem sc_united : FnScope ["one", "other"] ["one", "other"] (defScope s_united) := ⟨rfl, rfl, rfl, by decide +kernel, rfl, by decide +kernel, by decide +kernel⟩
noncomputable def g_united : DS :=
  (dRet (dCB opTup (dCons (dSS (dOp opAdd (dV 0) (dV 1))) dNil)))
noncomputable def f_united : DFun := defOf 0 g_united
theorem has_united {P : Program} {w : World} {K : PySem.W.Frag} {mg : Str → Option Value} {base : Heap} {fa : Addr} {fd : FuncData} (F : Fun K "united" "united" s_united fa fd) (hm : mg "united" = some (.ref fa)) (hb : Binds K fd ["one", "other"] []) (M : Bl mg)   : Has P w K mg base 1 "united" ["one", "other"] f_united :=
  has_def (g := g_united) F hm hb sc_united rfl fun cdv A outer s H E hg hr => by
    have hu0 : (A.deeper (envOfC "united" (defScope s_united) s.heap.objs.size fa cdv)).units + 200 < cLine := by have := hr.un; omega
    have hu1 : (A.deeper (envOfC "united" (defScope s_united) s.heap.objs.size fa cdv)).units + 100 < cLine := by omega
    have hu2 : (A.deeper (envOfC "united" (defScope s_united) s.heap.objs.size fa cdv)).units + 64 < cLine := by omega
    have hu : (A.deeper (envOfC "united" (defScope s_united) s.heap.objs.size fa cdv)).units + 65 < cLine := by omega
    exact ⟨_, (dss_one (ds_ret (de_ct cr_tup (by rfl) M.tuple_ (by decide +kernel) (da_cons (de_ss rfl hu0 (by rfl) M.sorted (by rfl) M.set (de_bin or_add (de_v 0) (de_v 1))) da_nil))))⟩

abbrev s_less : Stmt := topS 5
theorem sc_less : FnScope ["one", "other", "name"] ["one", "other"] (defScope s_less) := ⟨rfl, rfl, rfl, by decide +kernel, rfl, by decide +kernel, by decide +kernel⟩
noncomputable def g_less : DS :=
  (dRet (dCB opTup (dCons (dLc [2] (dItV [2] 0) (dName 2) (dTest (dOp opNi (dV 2) (dV 1))) (dV 2)) dNil)))
noncomputable def f_less : DFun := defOf 1 g_less
theorem has_less {P : Program} {w : World} {K : PySem.W.Frag} {mg : Str → Option Value} {base : Heap} {fa : Addr} {fd : FuncData} (F : Fun K "less" "less" s_less fa fd) (hm : mg "less" = some (.ref fa)) (hb : Binds K fd ["one", "other"] []) (M : Bl mg)   : Has P w K mg base 1 "less" ["one", "other"] f_less :=
  has_def (g := g_less) F hm hb sc_less rfl fun cdv A outer s H E hg hr => by
    have hu0 : (A.deeper (envOfC "less" (defScope s_less) s.heap.objs.size fa cdv)).units + 200 < cLine := by have := hr.un; omega
    have hu1 : (A.deeper (envOfC "less" (defScope s_less) s.heap.objs.size fa cdv)).units + 100 < cLine := by omega
    have hu2 : (A.deeper (envOfC "less" (defScope s_less) s.heap.objs.size fa cdv)).units + 64 < cLine := by omega
    have hu : (A.deeper (envOfC "less" (defScope s_less) s.heap.objs.size fa cdv)).units + 65 < cLine := by omega
    exact ⟨_, (dss_one (ds_ret (de_ct cr_tup (by rfl) M.tuple_ (by decide +kernel) (da_cons (de_lc [("name", 2)] rfl sc_less.nd (dio_v 0) (blkOk_by (by first | rfl | decide +kernel)) (fun _ _ _ _ _ => dgw_name 2 sc_less.nd) (fun _ _ _ _ _ => (dts_one (dt_cmp (or_ni hu) (de_v 2) (de_v 1)))) (fun _ _ _ _ _ => (de_v 2))) da_nil))))⟩

abbrev s_is_part : Stmt := topS 6
theorem sc_is_part : FnScope ["one", "other", "name"] ["one", "other"] (defScope s_is_part) := ⟨rfl, rfl, rfl, by decide +kernel, rfl, by decide +kernel, by decide +kernel⟩
noncomputable def g_is_part : DS :=
  (dSeq (dFor (dItems (dV 0)) (dName 2) (dIfS (dTest (dOp opNi (dV 2) (dV 1))) (dRet (dC (.bool false))) dNx))
  (dRet (dC (.bool true))))
noncomputable def f_is_part : DFun := defOf 1 g_is_part
theorem has_is_part {P : Program} {w : World} {K : PySem.W.Frag} {mg : Str → Option Value} {base : Heap} {fa : Addr} {fd : FuncData} (F : Fun K "is_part" "is_part" s_is_part fa fd) (hm : mg "is_part" = some (.ref fa)) (hb : Binds K fd ["one", "other"] []) (M : Bl mg)   : Has P w K mg base 1 "is_part" ["one", "other"] f_is_part :=
  has_def (g := g_is_part) F hm hb sc_is_part rfl fun cdv A outer s H E hg hr => by
    have hu0 : (A.deeper (envOfC "is_part" (defScope s_is_part) s.heap.objs.size fa cdv)).units + 200 < cLine := by have := hr.un; omega
    have hu1 : (A.deeper (envOfC "is_part" (defScope s_is_part) s.heap.objs.size fa cdv)).units + 100 < cLine := by omega
    have hu2 : (A.deeper (envOfC "is_part" (defScope s_is_part) s.heap.objs.size fa cdv)).units + 64 < cLine := by omega
    have hu : (A.deeper (envOfC "is_part" (defScope s_is_part) s.heap.objs.size fa cdv)).units + 65 < cLine := by omega
    exact ⟨_, (dss_cons (ds_for PassesOwn.never rfl (di_any (de_v 0)) (dg_name 2 sc_is_part.nd) (dss_one (ds_if (dt_cmp (or_ni hu) (de_v 2) (de_v 1)) (dss_one (ds_ret de_bl)) dss_nil)))
    (dss_one (ds_ret de_bl)))⟩

abbrev s_parts_of : Stmt := topS 7
theorem sc_parts_of : FnScope ["lot", "parts", "name", "part"] ["lot"] (defScope s_parts_of) := ⟨rfl, rfl, rfl, by decide +kernel, rfl, by decide +kernel, by decide +kernel⟩
noncomputable def g_parts_of : DS :=
  (dSeq (dSet 1 (dLst (dCons (dTup dNil) dNil)))
  (dSeq (dFor (dItems (dV 0)) (dName 2) (dSet 1 (dOp opAdd (dV 1) (dLc [3] (dItV [3] 1) (dName 3) dYes (dOp opAdd (dV 3) (dTup (dCons (dV 2) dNil)))))))
  (dRet (dCB opTup (dCons (dCB opSort (dCons (dV 1) dNil)) dNil)))))
noncomputable def f_parts_of : DFun := defOf 3 g_parts_of
theorem has_parts_of {P : Program} {w : World} {K : PySem.W.Frag} {mg : Str → Option Value} {base : Heap} {fa : Addr} {fd : FuncData} (F : Fun K "parts_of" "parts_of" s_parts_of fa fd) (hm : mg "parts_of" = some (.ref fa)) (hb : Binds K fd ["lot"] []) (M : Bl mg)   : Has P w K mg base 1 "parts_of" ["lot"] f_parts_of :=
  has_def (g := g_parts_of) F hm hb sc_parts_of rfl fun cdv A outer s H E hg hr => by
    have hu0 : (A.deeper (envOfC "parts_of" (defScope s_parts_of) s.heap.objs.size fa cdv)).units + 200 < cLine := by have := hr.un; omega
    have hu1 : (A.deeper (envOfC "parts_of" (defScope s_parts_of) s.heap.objs.size fa cdv)).units + 100 < cLine := by omega
    have hu2 : (A.deeper (envOfC "parts_of" (defScope s_parts_of) s.heap.objs.size fa cdv)).units + 64 < cLine := by omega
    have hu : (A.deeper (envOfC "parts_of" (defScope s_parts_of) s.heap.objs.size fa cdv)).units + 65 < cLine := by omega
    exact ⟨_, (dss_cons (ds_set 1 sc_parts_of.nd (de_lst (da_cons (de_tup da_nil) da_nil)))
    (dss_cons (ds_for PassesOwn.never rfl (di_any (de_v 0)) (dg_name 2 sc_parts_of.nd) (dss_one (ds_set 1 sc_parts_of.nd (de_bin or_add (de_v 1) (de_lc [("part", 3)] rfl sc_parts_of.nd (dio_v 1) (blkOk_by (by first | rfl | decide +kernel)) (fun _ _ _ _ _ => dgw_name 3 sc_parts_of.nd) (fun _ _ _ _ _ => dts_nil) (fun _ _ _ _ _ => (de_bin or_add (de_v 3) (de_tup (da_cons (de_v 2) da_nil)))))))))
    (dss_one (ds_ret (de_ct cr_tup (by rfl) M.tuple_ (by decide +kernel) (da_cons (de_cb (cr_sort hu1) (by rfl) M.sorted (by decide +kernel) (da_cons (de_v 1) da_nil)) da_nil))))))⟩

abbrev s_lots_between : Stmt := topS 8
theorem sc_lots_between : FnScope ["low", "high", "part"] ["low", "high"] (defScope s_lots_between) := ⟨rfl, rfl, rfl, by decide +kernel, rfl, by decide +kernel, by decide +kernel⟩
noncomputable def g_lots_between : DS :=
  (dSeq (dIfS (dNot (dTest (dCall f_is_part (dCons (dV 0) (dCons (dV 1) dNil))))) (dRet (dTup dNil)) dNx)
  (dRet (dCB opTup (dCons (dCB opSort (dCons (dLc [2] (dIo (dItems (dCall f_parts_of (dCons (dCall f_less (dCons (dV 1) (dCons (dV 0) dNil))) dNil)))) (dName 2) dYes (dCall f_united (dCons (dV 0) (dCons (dV 2) dNil)))) dNil)) dNil))))
noncomputable def f_lots_between : DFun := defOf 1 g_lots_between
theorem has_lots_between {P : Program} {w : World} {K : PySem.W.Frag} {mg : Str → Option Value} {base : Heap} {fa : Addr} {fd : FuncData} (F : Fun K "lots_between" "lots_between" s_lots_between fa fd) (hm : mg "lots_between" = some (.ref fa)) (hb : Binds K fd ["low", "high"] []) (M : Bl mg) (h_united : Has P w K mg base 1 "united" ["one", "other"] f_united) (h_less : Has P w K mg base 1 "less" ["one", "other"] f_less) (h_is_part : Has P w K mg base 1 "is_part" ["one", "other"] f_is_part) (h_parts_of : Has P w K mg base 1 "parts_of" ["lot"] f_parts_of)  : Has P w K mg base 2 "lots_between" ["low", "high"] f_lots_between :=
  has_def (g := g_lots_between) F hm hb sc_lots_between rfl fun cdv A outer s H E hg hr => by
    have hu0 : (A.deeper (envOfC "lots_between" (defScope s_lots_between) s.heap.objs.size fa cdv)).units + 200 < cLine := by have := hr.un; omega
    have hu1 : (A.deeper (envOfC "lots_between" (defScope s_lots_between) s.heap.objs.size fa cdv)).units + 100 < cLine := by omega
    have hu2 : (A.deeper (envOfC "lots_between" (defScope s_lots_between) s.heap.objs.size fa cdv)).units + 64 < cLine := by omega
    have hu : (A.deeper (envOfC "lots_between" (defScope s_lots_between) s.heap.objs.size fa cdv)).units + 65 < cLine := by omega
    exact ⟨_, (dss_cons (ds_if (dt_not (dt_val (de_call h_is_part hg (hr.mono (by decide)) (by rfl) (da_cons (de_v 0) (da_cons (de_v 1) da_nil))))) (dss_one (ds_ret (de_tup da_nil))) dss_nil)
    (dss_one (ds_ret (de_ct cr_tup (by rfl) M.tuple_ (by decide +kernel) (da_cons (de_cb (cr_sort hu1) (by rfl) M.sorted (by decide +kernel) (da_cons (de_lc [("part", 2)] rfl sc_lots_between.nd (dio_of (di_any (de_call h_parts_of hg (hr.mono (by decide)) (by rfl) (da_cons (de_call h_less hg (hr.mono (by decide)) (by rfl) (da_cons (de_v 1) (da_cons (de_v 0) da_nil))) da_nil)))) (blkOk_by (by first | rfl | decide +kernel)) (fun _ _ _ _ _ => dgw_name 2 sc_lots_between.nd) (fun _ _ _ _ _ => dts_nil) (fun _ _ _ _ _ => (de_call h_united hg (hr.mono (by decide)) (by rfl) (da_cons (de_v 0) (da_cons (de_v 2) da_nil))))) da_nil)) da_nil)))))⟩

abbrev s_least_lots : Stmt := topS 9
theorem sc_least_lots : FnScope ["lots", "unlike", "least", "lot", "known"] ["lots"] (defScope s_least_lots) := ⟨rfl, rfl, rfl, by decide +kernel, rfl, by decide +kernel, by decide +kernel⟩
noncomputable def g_least_lots : DS :=
  (dSeq (dSet 1 (dSS (dV 0)))
  (dSeq (dSet 2 (dLst dNil))
  (dSeq (dFor (dItems (dUn (opSortLen false) (dV 1))) (dName 3) (dIfS (dNot (dTest (dCB opAny (dCons (dLc [4] (dItV [4] 2) (dName 4) dYes (dCall f_is_part (dCons (dV 4) (dCons (dV 3) dNil)))) dNil)))) (dApp 2 (dV 3)) dNx))
  (dRet (dCB opTup (dCons (dCB opSort (dCons (dV 2) dNil)) dNil))))))
noncomputable def f_least_lots : DFun := defOf 4 g_least_lots
theorem has_least_lots {P : Program} {w : World} {K : PySem.W.Frag} {mg : Str → Option Value} {base : Heap} {fa : Addr} {fd : FuncData} (F : Fun K "least_lots" "least_lots" s_least_lots fa fd) (hm : mg "least_lots" = some (.ref fa)) (hb : Binds K fd ["lots"] []) (M : Bl mg) (h_is_part : Has P w K mg base 1 "is_part" ["one", "other"] f_is_part)  : Has P w K mg base 2 "least_lots" ["lots"] f_least_lots :=
  has_def (g := g_least_lots) F hm hb sc_least_lots rfl fun cdv A outer s H E hg hr => by
    have hu0 : (A.deeper (envOfC "least_lots" (defScope s_least_lots) s.heap.objs.size fa cdv)).units + 200 < cLine := by have := hr.un; omega
    have hu1 : (A.deeper (envOfC "least_lots" (defScope s_least_lots) s.heap.objs.size fa cdv)).units + 100 < cLine := by omega
    have hu2 : (A.deeper (envOfC "least_lots" (defScope s_least_lots) s.heap.objs.size fa cdv)).units + 64 < cLine := by omega
    have hu : (A.deeper (envOfC "least_lots" (defScope s_least_lots) s.heap.objs.size fa cdv)).units + 65 < cLine := by omega
    exact ⟨_, (dss_cons (ds_set 1 sc_least_lots.nd (de_ss rfl hu0 (by rfl) M.sorted (by rfl) M.set (de_v 0)))
    (dss_cons (ds_set 2 sc_least_lots.nd (de_lst da_nil))
    (dss_cons (ds_for PassesOwn.never rfl (di_any (de_sl1 hu1 (by rfl) M.sorted (by rfl) M.len (de_v 1))) (dg_name 3 sc_least_lots.nd) (dss_one (ds_if (dt_not (dt_val (de_cb (cr_any rfl) (by rfl) M.any (by decide +kernel) (da_cons (de_lc [("known", 4)] rfl sc_least_lots.nd (dio_v 2) (blkOk_by (by first | rfl | decide +kernel)) (fun _ _ _ _ _ => dgw_name 4 sc_least_lots.nd) (fun _ _ _ _ _ => dts_nil) (fun _ _ _ _ _ => (de_call h_is_part hg (hr.mono (by decide)) (by rfl) (da_cons (de_v 4) (da_cons (de_v 3) da_nil))))) da_nil)))) (dss_one (ds_app 2 (de_v 3))) dss_nil)))
    (dss_one (ds_ret (de_ct cr_tup (by rfl) M.tuple_ (by decide +kernel) (da_cons (de_cb (cr_sort hu1) (by rfl) M.sorted (by decide +kernel) (da_cons (de_v 2) da_nil)) da_nil)))))))⟩

abbrev s_greatest_lots : Stmt := topS 10
theorem sc_greatest_lots : FnScope ["lots", "unlike", "greatest", "lot", "known"] ["lots"] (defScope s_greatest_lots) := ⟨rfl, rfl, rfl, by decide +kernel, rfl, by decide +kernel, by decide +kernel⟩
noncomputable def g_greatest_lots : DS :=
  (dSeq (dSet 1 (dSS (dV 0)))
  (dSeq (dSet 2 (dLst dNil))
  (dSeq (dFor (dItems (dUn (opSortLen true) (dV 1))) (dName 3) (dIfS (dNot (dTest (dCB opAny (dCons (dLc [4] (dItV [4] 2) (dName 4) dYes (dCall f_is_part (dCons (dV 3) (dCons (dV 4) dNil)))) dNil)))) (dApp 2 (dV 3)) dNx))
  (dRet (dCB opTup (dCons (dCB opSort (dCons (dV 2) dNil)) dNil))))))
noncomputable def f_greatest_lots : DFun := defOf 4 g_greatest_lots
theorem has_greatest_lots {P : Program} {w : World} {K : PySem.W.Frag} {mg : Str → Option Value} {base : Heap} {fa : Addr} {fd : FuncData} (F : Fun K "greatest_lots" "greatest_lots" s_greatest_lots fa fd) (hm : mg "greatest_lots" = some (.ref fa)) (hb : Binds K fd ["lots"] []) (M : Bl mg) (h_is_part : Has P w K mg base 1 "is_part" ["one", "other"] f_is_part)  : Has P w K mg base 2 "greatest_lots" ["lots"] f_greatest_lots :=
  has_def (g := g_greatest_lots) F hm hb sc_greatest_lots rfl fun cdv A outer s H E hg hr => by
    have hu0 : (A.deeper (envOfC "greatest_lots" (defScope s_greatest_lots) s.heap.objs.size fa cdv)).units + 200 < cLine := by have := hr.un; omega
    have hu1 : (A.deeper (envOfC "greatest_lots" (defScope s_greatest_lots) s.heap.objs.size fa cdv)).units + 100 < cLine := by omega
    have hu2 : (A.deeper (envOfC "greatest_lots" (defScope s_greatest_lots) s.heap.objs.size fa cdv)).units + 64 < cLine := by omega
    have hu : (A.deeper (envOfC "greatest_lots" (defScope s_greatest_lots) s.heap.objs.size fa cdv)).units + 65 < cLine := by omega
    exact ⟨_, (dss_cons (ds_set 1 sc_greatest_lots.nd (de_ss rfl hu0 (by rfl) M.sorted (by rfl) M.set (de_v 0)))
    (dss_cons (ds_set 2 sc_greatest_lots.nd (de_lst da_nil))
    (dss_cons (ds_for PassesOwn.never rfl (di_any (de_sl2 true hu1 (by rfl) M.sorted (by rfl) M.len (de_v 1))) (dg_name 3 sc_greatest_lots.nd) (dss_one (ds_if (dt_not (dt_val (de_cb (cr_any rfl) (by rfl) M.any (by decide +kernel) (da_cons (de_lc [("known", 4)] rfl sc_greatest_lots.nd (dio_v 2) (blkOk_by (by first | rfl | decide +kernel)) (fun _ _ _ _ _ => dgw_name 4 sc_greatest_lots.nd) (fun _ _ _ _ _ => dts_nil) (fun _ _ _ _ _ => (de_call h_is_part hg (hr.mono (by decide)) (by rfl) (da_cons (de_v 3) (da_cons (de_v 4) da_nil))))) da_nil)))) (dss_one (ds_app 2 (de_v 3))) dss_nil)))
    (dss_one (ds_ret (de_ct cr_tup (by rfl) M.tuple_ (by decide +kernel) (da_cons (de_cb (cr_sort hu1) (by rfl) M.sorted (by decide +kernel) (da_cons (de_v 2) da_nil)) da_nil)))))))⟩

abbrev s__law_box : Stmt := topS 12
theorem sc__law_box : FnScope ["_law_script", "_law_k", "_law_cell"] ["_law_script", "_law_k"] (defScope s__law_box) := ⟨rfl, rfl, rfl, by decide +kernel, rfl, by decide +kernel, by decide +kernel⟩
noncomputable def g__law_box : DS :=
  (dSeq (dSet 2 (dOp opAdd (dOp opMul (dC (.int 7717)) (dV 1)) (dC (.int 41843))))
  (dSeq (dIfS (dTest (dOp opLt (dV 1) (dCB opLen (dCons (dV 0) dNil)))) (dSet 2 (dCB opAbs (dCons (dOp opIx (dV 0) (dV 1)) dNil))) (dIfS (dTest (dOp opGt (dCB opLen (dCons (dV 0) dNil)) (dC (.int 0)))) (dSet 2 (dOp opAdd (dV 2) (dOp opMul (dOp opMod (dCB opInt (dCons (dCB opAbs (dCons (dOp opIx (dV 0) (dOp opMod (dCB opInt (dCons (dV 1) dNil)) (dCB opLen (dCons (dV 0) dNil)))) dNil)) dNil)) (dC (.int 2147483629))) (dC (.int 60719))))) dNx))
  (dRet (dLst (dCons (dOp opIx (dLst (dCons (dC (.int 0)) (dCons (dV 2) dNil))) (dCB opInt (dCons (dOp opGe (dV 2) (dOp opPow (dC (.int 10)) (dC (.int 18)))) dNil))) (dCons (dOp opAdd (dOp opMod (dCB opInt (dCons (dOp opAdd (dOp opAdd (dOp opMul (dOp opMod (dCB opInt (dCons (dV 2) dNil)) (dC (.int 2147483629))) (dC (.int 48271))) (dOp opMul (dC (.int 35311)) (dV 1))) (dC (.int 977))) dNil)) (dC (.int 2147483629))) (dC (.int 1))) (dCons (dC (.int 0)) dNil)))))))
noncomputable def f__law_box : DFun := defOf 1 g__law_box
theorem has__law_box {P : Program} {w : World} {K : PySem.W.Frag} {mg : Str → Option Value} {base : Heap} {fa : Addr} {fd : FuncData} (F : Fun K "_law_box" "_law_box" s__law_box fa fd) (hm : mg "_law_box" = some (.ref fa)) (hb : Binds K fd ["_law_script", "_law_k"] []) (M : Bl mg)   : Has P w K mg base 1 "_law_box" ["_law_script", "_law_k"] f__law_box :=
  has_def (g := g__law_box) F hm hb sc__law_box rfl fun cdv A outer s H E hg hr => by
    have hu0 : (A.deeper (envOfC "_law_box" (defScope s__law_box) s.heap.objs.size fa cdv)).units + 200 < cLine := by have := hr.un; omega
    have hu1 : (A.deeper (envOfC "_law_box" (defScope s__law_box) s.heap.objs.size fa cdv)).units + 100 < cLine := by omega
    have hu2 : (A.deeper (envOfC "_law_box" (defScope s__law_box) s.heap.objs.size fa cdv)).units + 64 < cLine := by omega
    have hu : (A.deeper (envOfC "_law_box" (defScope s__law_box) s.heap.objs.size fa cdv)).units + 65 < cLine := by omega
    exact ⟨_, (dss_cons (ds_set 2 sc__law_box.nd (de_bin or_add (de_bin or_mul de_int (de_v 1)) de_int))
    (dss_cons (ds_if (dt_cmp or_lt (de_v 1) (de_cb cr_len (by rfl) M.len (by decide +kernel) (da_cons (de_v 0) da_nil))) (dss_one (ds_set 2 sc__law_box.nd (de_cb cr_abs (by rfl) M.abs (by decide +kernel) (da_cons (de_ix (de_v 0) (de_v 1)) da_nil)))) (dss_one (ds_if (dt_cmp or_gt (de_cb cr_len (by rfl) M.len (by decide +kernel) (da_cons (de_v 0) da_nil)) de_int) (dss_one (ds_set 2 sc__law_box.nd (de_bin or_add (de_v 2) (de_bin or_mul (de_bin or_mod (de_ct cr_int (by rfl) M.int_ (by decide +kernel) (da_cons (de_cb cr_abs (by rfl) M.abs (by decide +kernel) (da_cons (de_ix (de_v 0) (de_bin or_mod (de_ct cr_int (by rfl) M.int_ (by decide +kernel) (da_cons (de_v 1) da_nil)) (de_cb cr_len (by rfl) M.len (by decide +kernel) (da_cons (de_v 0) da_nil)))) da_nil)) da_nil)) de_int) de_int)))) dss_nil)))
    (dss_one (ds_ret (de_lst (da_cons (de_ix (de_lst (da_cons de_int (da_cons (de_v 2) da_nil))) (de_ct cr_int (by rfl) M.int_ (by decide +kernel) (da_cons (de_cmp or_ge (de_v 2) (de_bin or_pow de_int de_int)) da_nil))) (da_cons (de_bin or_add (de_bin or_mod (de_ct cr_int (by rfl) M.int_ (by decide +kernel) (da_cons (de_bin or_add (de_bin or_add (de_bin or_mul (de_bin or_mod (de_ct cr_int (by rfl) M.int_ (by decide +kernel) (da_cons (de_v 2) da_nil)) de_int) de_int) (de_bin or_mul de_int (de_v 1))) de_int) da_nil)) de_int) de_int) (da_cons de_int da_nil))))))))⟩

abbrev s__law_take : Stmt := topS 13
theorem sc__law_take : FnScope ["_law_box_here", "_law_many", "_law_digit", "_law_raw"] ["_law_box_here", "_law_many"] (defScope s__law_take) := ⟨rfl, rfl, rfl, by decide +kernel, rfl, by decide +kernel, by decide +kernel⟩
noncomputable def g__law_take : DS :=
  (dSeq (dIfS (dTest (dOp opGt (dOp opIx (dV 0) (dC (.int 0))) (dC (.int 0)))) (dSeq (dSet 2 (dOp opMod (dCB opInt (dCons (dOp opIx (dV 0) (dC (.int 0))) dNil)) (dV 1)))
  (dSeq (dBoxSet 0 0 (dOp opDiv (dOp opIx (dV 0) (dC (.int 0))) (dV 1)))
  (dRet (dV 2)))) dNx)
  (dSeq (dBoxSet 0 2 (dOp opAdd (dOp opIx (dV 0) (dC (.int 2))) (dC (.int 1))))
  (dSeq (dSet 3 (dOp opMod (dCB opInt (dCons (dOp opAdd (dOp opMul (dOp opAdd (dOp opIx (dV 0) (dC (.int 1))) (dOp opMul (dC (.int 99991)) (dOp opIx (dV 0) (dC (.int 2))))) (dC (.int 69621))) (dC (.int 53))) dNil)) (dC (.int 2147483563))))
  (dSeq (dBoxSet 0 1 (dOp opAdd (dOp opMod (dCB opInt (dCons (dOp opAdd (dOp opMul (dV 3) (dC (.int 40692))) (dC (.int 27011))) dNil)) (dC (.int 2147483629))) (dC (.int 1))))
  (dRet (dOp opMod (dCB opInt (dCons (dOp opDiv (dOp opAdd (dOp opMul (dV 3) (dC (.int 2147483647))) (dOp opIx (dV 0) (dC (.int 1)))) (dC (.int 8191))) dNil)) (dV 1)))))))
noncomputable def f__law_take : DFun := defOf 2 g__law_take
theorem has__law_take {P : Program} {w : World} {K : PySem.W.Frag} {mg : Str → Option Value} {base : Heap} {fa : Addr} {fd : FuncData} (F : Fun K "_law_take" "_law_take" s__law_take fa fd) (hm : mg "_law_take" = some (.ref fa)) (hb : Binds K fd ["_law_box_here", "_law_many"] []) (M : Bl mg)   : Has P w K mg base 1 "_law_take" ["_law_box_here", "_law_many"] f__law_take :=
  has_def (g := g__law_take) F hm hb sc__law_take rfl fun cdv A outer s H E hg hr => by
    have hu0 : (A.deeper (envOfC "_law_take" (defScope s__law_take) s.heap.objs.size fa cdv)).units + 200 < cLine := by have := hr.un; omega
    have hu1 : (A.deeper (envOfC "_law_take" (defScope s__law_take) s.heap.objs.size fa cdv)).units + 100 < cLine := by omega
    have hu2 : (A.deeper (envOfC "_law_take" (defScope s__law_take) s.heap.objs.size fa cdv)).units + 64 < cLine := by omega
    have hu : (A.deeper (envOfC "_law_take" (defScope s__law_take) s.heap.objs.size fa cdv)).units + 65 < cLine := by omega
    exact ⟨_, (dss_cons (ds_if (dt_cmp or_gt (de_ix (de_v 0) de_int) de_int) (dss_cons (ds_set 2 sc__law_take.nd (de_bin or_mod (de_ct cr_int (by rfl) M.int_ (by decide +kernel) (da_cons (de_ix (de_v 0) de_int) da_nil)) (de_v 1)))
    (dss_cons (ds_box 0 0 (de_bin or_div (de_ix (de_v 0) de_int) (de_v 1)))
    (dss_one (ds_ret (de_v 2))))) dss_nil)
    (dss_cons (ds_box 0 2 (de_bin or_add (de_ix (de_v 0) de_int) de_int))
    (dss_cons (ds_set 3 sc__law_take.nd (de_bin or_mod (de_ct cr_int (by rfl) M.int_ (by decide +kernel) (da_cons (de_bin or_add (de_bin or_mul (de_bin or_add (de_ix (de_v 0) de_int) (de_bin or_mul de_int (de_ix (de_v 0) de_int))) de_int) de_int) da_nil)) de_int))
    (dss_cons (ds_box 0 1 (de_bin or_add (de_bin or_mod (de_ct cr_int (by rfl) M.int_ (by decide +kernel) (da_cons (de_bin or_add (de_bin or_mul (de_v 3) de_int) de_int) da_nil)) de_int) de_int))
    (dss_one (ds_ret (de_bin or_mod (de_ct cr_int (by rfl) M.int_ (by decide +kernel) (da_cons (de_bin or_div (de_bin or_add (de_bin or_mul (de_v 3) de_int) (de_ix (de_v 0) de_int)) de_int) da_nil)) (de_v 1))))))))⟩

abbrev s__law_pick : Stmt := topS 14
theorem sc__law_pick : FnScope ["_law_box_here", "_law_some"] ["_law_box_here", "_law_some"] (defScope s__law_pick) := ⟨rfl, rfl, rfl, by decide +kernel, rfl, by decide +kernel, by decide +kernel⟩
noncomputable def g__law_pick : DS :=
  (dRet (dOp opIx (dV 1) (dCall f__law_take (dCons (dV 0) (dCons (dCB opLen (dCons (dV 1) dNil)) dNil)))))
noncomputable def f__law_pick : DFun := defOf 0 g__law_pick
theorem has__law_pick {P : Program} {w : World} {K : PySem.W.Frag} {mg : Str → Option Value} {base : Heap} {fa : Addr} {fd : FuncData} (F : Fun K "_law_pick" "_law_pick" s__law_pick fa fd) (hm : mg "_law_pick" = some (.ref fa)) (hb : Binds K fd ["_law_box_here", "_law_some"] []) (M : Bl mg) (h__law_take : Has P w K mg base 1 "_law_take" ["_law_box_here", "_law_many"] f__law_take)  : Has P w K mg base 2 "_law_pick" ["_law_box_here", "_law_some"] f__law_pick :=
  has_def (g := g__law_pick) F hm hb sc__law_pick rfl fun cdv A outer s H E hg hr => by
    have hu0 : (A.deeper (envOfC "_law_pick" (defScope s__law_pick) s.heap.objs.size fa cdv)).units + 200 < cLine := by have := hr.un; omega
    have hu1 : (A.deeper (envOfC "_law_pick" (defScope s__law_pick) s.heap.objs.size fa cdv)).units + 100 < cLine := by omega
    have hu2 : (A.deeper (envOfC "_law_pick" (defScope s__law_pick) s.heap.objs.size fa cdv)).units + 64 < cLine := by omega
    have hu : (A.deeper (envOfC "_law_pick" (defScope s__law_pick) s.heap.objs.size fa cdv)).units + 65 < cLine := by omega
    exact ⟨_, (dss_one (ds_ret (de_ix (de_v 1) (de_call h__law_take hg (hr.mono (by decide)) (by rfl) (da_cons (de_v 0) (da_cons (de_cb cr_len (by rfl) M.len (by decide +kernel) (da_cons (de_v 1) da_nil)) da_nil))))))⟩

abbrev s__law_mixed : Stmt := topS 15
theorem sc__law_mixed : FnScope ["_law_box_here", "_law_some", "_law_left", "_law_found"] ["_law_box_here", "_law_some"] (defScope s__law_mixed) := ⟨rfl, rfl, rfl, by decide +kernel, rfl, by decide +kernel, by decide +kernel⟩
noncomputable def g__law_mixed : DS :=
  (dSeq (dPar 2 3 (dCB opList (dCons (dV 1) dNil)) (dLst dNil))
  (dSeq (dWhile (dTest (dOp opGt (dCB opLen (dCons (dV 2) dNil)) (dC (.int 0)))) (dApp 3 (dPop 2 (dCall f__law_take (dCons (dV 0) (dCons (dCB opLen (dCons (dV 2) dNil)) dNil))))))
  (dRet (dV 3))))
noncomputable def f__law_mixed : DFun := defOf 2 g__law_mixed
theorem has__law_mixed {P : Program} {w : World} {K : PySem.W.Frag} {mg : Str → Option Value} {base : Heap} {fa : Addr} {fd : FuncData} (F : Fun K "_law_mixed" "_law_mixed" s__law_mixed fa fd) (hm : mg "_law_mixed" = some (.ref fa)) (hb : Binds K fd ["_law_box_here", "_law_some"] []) (M : Bl mg) (h__law_take : Has P w K mg base 1 "_law_take" ["_law_box_here", "_law_many"] f__law_take)  : Has P w K mg base 2 "_law_mixed" ["_law_box_here", "_law_some"] f__law_mixed :=
  has_def (g := g__law_mixed) F hm hb sc__law_mixed rfl fun cdv A outer s H E hg hr => by
    have hu0 : (A.deeper (envOfC "_law_mixed" (defScope s__law_mixed) s.heap.objs.size fa cdv)).units + 200 < cLine := by have := hr.un; omega
    have hu1 : (A.deeper (envOfC "_law_mixed" (defScope s__law_mixed) s.heap.objs.size fa cdv)).units + 100 < cLine := by omega
    have hu2 : (A.deeper (envOfC "_law_mixed" (defScope s__law_mixed) s.heap.objs.size fa cdv)).units + 64 < cLine := by omega
    have hu : (A.deeper (envOfC "_law_mixed" (defScope s__law_mixed) s.heap.objs.size fa cdv)).units + 65 < cLine := by omega
    exact ⟨_, (dss_cons (ds_par 2 3 rfl sc__law_mixed.nd (de_ct cr_list (by rfl) M.list_ (by decide +kernel) (da_cons (de_v 1) da_nil)) (de_lst da_nil))
    (dss_cons (ds_while PassesOwn.never (dt_cmp or_gt (de_cb cr_len (by rfl) M.len (by decide +kernel) (da_cons (de_v 2) da_nil)) de_int) (dss_one (ds_app 3 (de_pop 2 (de_call h__law_take hg (hr.mono (by decide)) (by rfl) (da_cons (de_v 0) (da_cons (de_cb cr_len (by rfl) M.len (by decide +kernel) (da_cons (de_v 2) da_nil)) da_nil)))))))
    (dss_one (ds_ret (de_v 3)))))⟩

abbrev s__law_names : Stmt := topS 16
theorem sc__law_names : FnScope ["_law_box_here", "_law_many", "_law_wide", "_law_names_here", "_law_turn", "_law_name", "_law_spot"] ["_law_box_here", "_law_many"] (defScope s__law_names) := ⟨rfl, rfl, rfl, by decide +kernel, rfl, by decide +kernel, by decide +kernel⟩
noncomputable def g__law_names : DS :=
  (dSeq (dPar 2 3 (dCall f__law_take (dCons (dV 0) (dCons (dC (.int 2)) dNil))) (dLst dNil))
  (dSeq (dFor (dRng1 (dCons (dOp opMul (dC (.int 4)) (dV 1)) dNil)) (dName 4) (dSeq (dIfS (dTest (dOp opEq (dCB opLen (dCons (dV 3) dNil)) (dV 1))) dBk dNx)
  (dSeq (dSet 5 (dC (.str "")))
  (dSeq (dFor (dRng1 (dCons (dOp opAdd (dC (.int 1)) (dCall f__law_take (dCons (dV 0) (dCons (dOp opIx (dLst (dCons (dC (.int 2)) (dCons (dC (.int 5)) dNil))) (dV 2)) dNil)))) dNil)) (dName 6) (dSet 5 (dOp opAdd (dV 5) (dOp opIx (dC (.str "abcdefghijklmnopqrstuvwxyz")) (dCall f__law_take (dCons (dV 0) (dCons (dOp opIx (dLst (dCons (dC (.int 3)) (dCons (dC (.int 26)) dNil))) (dV 2)) dNil)))))))
  (dIfS (dTest (dOp opNi (dV 5) (dV 3))) (dApp 3 (dV 5)) dNx)))))
  (dRet (dCB opSort (dCons (dV 3) dNil)))))
noncomputable def f__law_names : DFun := defOf 5 g__law_names
theorem has__law_names {P : Program} {w : World} {K : PySem.W.Frag} {mg : Str → Option Value} {base : Heap} {fa : Addr} {fd : FuncData} (F : Fun K "_law_names" "_law_names" s__law_names fa fd) (hm : mg "_law_names" = some (.ref fa)) (hb : Binds K fd ["_law_box_here", "_law_many"] []) (M : Bl mg) (h__law_take : Has P w K mg base 1 "_law_take" ["_law_box_here", "_law_many"] f__law_take)  : Has P w K mg base 2 "_law_names" ["_law_box_here", "_law_many"] f__law_names :=
  has_def (g := g__law_names) F hm hb sc__law_names rfl fun cdv A outer s H E hg hr => by
    have hu0 : (A.deeper (envOfC "_law_names" (defScope s__law_names) s.heap.objs.size fa cdv)).units + 200 < cLine := by have := hr.un; omega
    have hu1 : (A.deeper (envOfC "_law_names" (defScope s__law_names) s.heap.objs.size fa cdv)).units + 100 < cLine := by omega
    have hu2 : (A.deeper (envOfC "_law_names" (defScope s__law_names) s.heap.objs.size fa cdv)).units + 64 < cLine := by omega
    have hu : (A.deeper (envOfC "_law_names" (defScope s__law_names) s.heap.objs.size fa cdv)).units + 65 < cLine := by omega
    exact ⟨_, (dss_cons (ds_par 2 3 rfl sc__law_names.nd (de_call h__law_take hg (hr.mono (by decide)) (by rfl) (da_cons (de_v 0) (da_cons de_int da_nil))) (de_lst da_nil))
    (dss_cons (ds_for PassesOwn.never rfl (di_rng1 (by rfl) M.range (da_cons (de_bin or_mul de_int (de_v 1)) da_nil)) (dg_name 4 sc__law_names.nd) (dss_cons (ds_if (dt_cmp (or_eq hu) (de_cb cr_len (by rfl) M.len (by decide +kernel) (da_cons (de_v 3) da_nil)) (de_v 1)) (dss_one ds_break) dss_nil)
    (dss_cons (ds_set 5 sc__law_names.nd de_str)
    (dss_cons (ds_for PassesOwn.never rfl (di_rng1 (by rfl) M.range (da_cons (de_bin or_add de_int (de_call h__law_take hg (hr.mono (by decide)) (by rfl) (da_cons (de_v 0) (da_cons (de_ix (de_lst (da_cons de_int (da_cons de_int da_nil))) (de_v 2)) da_nil)))) da_nil)) (dg_name 6 sc__law_names.nd) (dss_one (ds_set 5 sc__law_names.nd (de_bin or_add (de_v 5) (de_ix de_str (de_call h__law_take hg (hr.mono (by decide)) (by rfl) (da_cons (de_v 0) (da_cons (de_ix (de_lst (da_cons de_int (da_cons de_int da_nil))) (de_v 2)) da_nil))))))))
    (dss_one (ds_if (dt_cmp (or_ni hu) (de_v 5) (de_v 3)) (dss_one (ds_app 3 (de_v 5))) dss_nil))))))
    (dss_one (ds_ret (de_cb (cr_sort hu1) (by rfl) M.sorted (by decide +kernel) (da_cons (de_v 3) da_nil))))))⟩

abbrev s__law_lot : Stmt := topS 17
theorem sc__law_lot : FnScope ["_law_box_here", "_law_names_here", "_law_name"] ["_law_box_here", "_law_names_here"] (defScope s__law_lot) := ⟨rfl, rfl, rfl, by decide +kernel, rfl, by decide +kernel, by decide +kernel⟩
noncomputable def g__law_lot : DS :=
  (dRet (dCB opTup (dCons (dLc [2] (dItV [2] 1) (dName 2) (dTest (dOp opEq (dCall f__law_take (dCons (dV 0) (dCons (dC (.int 2)) dNil))) (dC (.int 0)))) (dV 2)) dNil)))
noncomputable def f__law_lot : DFun := defOf 1 g__law_lot
theorem has__law_lot {P : Program} {w : World} {K : PySem.W.Frag} {mg : Str → Option Value} {base : Heap} {fa : Addr} {fd : FuncData} (F : Fun K "_law_lot" "_law_lot" s__law_lot fa fd) (hm : mg "_law_lot" = some (.ref fa)) (hb : Binds K fd ["_law_box_here", "_law_names_here"] []) (M : Bl mg) (h__law_take : Has P w K mg base 1 "_law_take" ["_law_box_here", "_law_many"] f__law_take)  : Has P w K mg base 2 "_law_lot" ["_law_box_here", "_law_names_here"] f__law_lot :=
  has_def (g := g__law_lot) F hm hb sc__law_lot rfl fun cdv A outer s H E hg hr => by
    have hu0 : (A.deeper (envOfC "_law_lot" (defScope s__law_lot) s.heap.objs.size fa cdv)).units + 200 < cLine := by have := hr.un; omega
    have hu1 : (A.deeper (envOfC "_law_lot" (defScope s__law_lot) s.heap.objs.size fa cdv)).units + 100 < cLine := by omega
    have hu2 : (A.deeper (envOfC "_law_lot" (defScope s__law_lot) s.heap.objs.size fa cdv)).units + 64 < cLine := by omega
    have hu : (A.deeper (envOfC "_law_lot" (defScope s__law_lot) s.heap.objs.size fa cdv)).units + 65 < cLine := by omega
    exact ⟨_, (dss_one (ds_ret (de_ct cr_tup (by rfl) M.tuple_ (by decide +kernel) (da_cons (de_lc [("_law_name", 2)] rfl sc__law_lot.nd (dio_v 1) (blkOk_by (by first | rfl | decide +kernel)) (fun _ _ _ _ _ => dgw_name 2 sc__law_lot.nd) (fun _ _ _ _ _ => (dts_one (dt_cmp (or_eq hu) (de_call h__law_take hg (hr.mono (by decide)) (by rfl) (da_cons (de_v 0) (da_cons de_int da_nil))) de_int))) (fun _ _ _ _ _ => (de_v 2))) da_nil))))⟩

abbrev s__law_all : Stmt := topS 18
theorem sc__law_all : FnScope ["_law_names_here", "_law_found", "_law_name", "_law_part"] ["_law_names_here"] (defScope s__law_all) := ⟨rfl, rfl, rfl, by decide +kernel, rfl, by decide +kernel, by decide +kernel⟩
noncomputable def g__law_all : DS :=
  (dSeq (dSet 1 (dLst (dCons (dTup dNil) dNil)))
  (dSeq (dFor (dItems (dV 0)) (dName 2) (dSet 1 (dOp opAdd (dV 1) (dLc [3] (dItV [3] 1) (dName 3) dYes (dOp opAdd (dV 3) (dTup (dCons (dV 2) dNil)))))))
  (dRet (dCB opSort (dCons (dV 1) dNil)))))
noncomputable def f__law_all : DFun := defOf 3 g__law_all
theorem has__law_all {P : Program} {w : World} {K : PySem.W.Frag} {mg : Str → Option Value} {base : Heap} {fa : Addr} {fd : FuncData} (F : Fun K "_law_all" "_law_all" s__law_all fa fd) (hm : mg "_law_all" = some (.ref fa)) (hb : Binds K fd ["_law_names_here"] []) (M : Bl mg)   : Has P w K mg base 1 "_law_all" ["_law_names_here"] f__law_all :=
  has_def (g := g__law_all) F hm hb sc__law_all rfl fun cdv A outer s H E hg hr => by
    have hu0 : (A.deeper (envOfC "_law_all" (defScope s__law_all) s.heap.objs.size fa cdv)).units + 200 < cLine := by have := hr.un; omega
    have hu1 : (A.deeper (envOfC "_law_all" (defScope s__law_all) s.heap.objs.size fa cdv)).units + 100 < cLine := by omega
    have hu2 : (A.deeper (envOfC "_law_all" (defScope s__law_all) s.heap.objs.size fa cdv)).units + 64 < cLine := by omega
    have hu : (A.deeper (envOfC "_law_all" (defScope s__law_all) s.heap.objs.size fa cdv)).units + 65 < cLine := by omega
    exact ⟨_, (dss_cons (ds_set 1 sc__law_all.nd (de_lst (da_cons (de_tup da_nil) da_nil)))
    (dss_cons (ds_for PassesOwn.never rfl (di_any (de_v 0)) (dg_name 2 sc__law_all.nd) (dss_one (ds_set 1 sc__law_all.nd (de_bin or_add (de_v 1) (de_lc [("_law_part", 3)] rfl sc__law_all.nd (dio_v 1) (blkOk_by (by first | rfl | decide +kernel)) (fun _ _ _ _ _ => dgw_name 3 sc__law_all.nd) (fun _ _ _ _ _ => dts_nil) (fun _ _ _ _ _ => (de_bin or_add (de_v 3) (de_tup (da_cons (de_v 2) da_nil)))))))))
    (dss_one (ds_ret (de_cb (cr_sort hu1) (by rfl) M.sorted (by decide +kernel) (da_cons (de_v 1) da_nil))))))⟩

abbrev s__law_no_names : Stmt := topS 19
theorem sc__law_no_names : FnScope ["_law_box_here", "_law_name", "_law_spot", "_law_signs", "_law_sign"] ["_law_box_here", "_law_name"] (defScope s__law_no_names) := ⟨rfl, rfl, rfl, by decide +kernel, rfl, by decide +kernel, by decide +kernel⟩
noncomputable def g__law_no_names : DS :=
  (dSeq (dSet 2 (dCall f__law_take (dCons (dV 0) (dCons (dCB opLen (dCons (dV 1) dNil)) dNil))))
  (dSeq (dSet 3 (dLc [4] (dIo (dItems (dLst (dCons (dC (.str "A")) (dCons (dC (.str "1")) (dCons (dC (.str " ")) (dCons (dC (.str "_")) (dCons (dC (.str "\n")) (dCons (dC (.str "-")) dNil))))))))) (dName 4) dYes (dOp opAdd (dOp opAdd (dSl (dV 1) dNoP (dPart (dV 2))) (dV 4)) (dSl (dV 1) (dPart (dOp opAdd (dV 2) (dC (.int 1)))) dNoP))))
  (dRet (dOp opAdd (dV 3) (dLst (dCons (dC (.str "")) (dCons (dSl (dOp opAdd (dV 1) (dC (.str "abcdef"))) dNoP (dPart (dC (.int 6)))) (dCons (dC (.int 7)) (dCons (dC .none) (dCons (dC (.bool true)) (dCons (dTup (dCons (dV 1) dNil)) (dCons (dLst (dCons (dV 1) dNil)) dNil))))))))))))
noncomputable def f__law_no_names : DFun := defOf 3 g__law_no_names
theorem has__law_no_names {P : Program} {w : World} {K : PySem.W.Frag} {mg : Str → Option Value} {base : Heap} {fa : Addr} {fd : FuncData} (F : Fun K "_law_no_names" "_law_no_names" s__law_no_names fa fd) (hm : mg "_law_no_names" = some (.ref fa)) (hb : Binds K fd ["_law_box_here", "_law_name"] []) (M : Bl mg) (h__law_take : Has P w K mg base 1 "_law_take" ["_law_box_here", "_law_many"] f__law_take)  : Has P w K mg base 2 "_law_no_names" ["_law_box_here", "_law_name"] f__law_no_names :=
  has_def (g := g__law_no_names) F hm hb sc__law_no_names rfl fun cdv A outer s H E hg hr => by
    have hu0 : (A.deeper (envOfC "_law_no_names" (defScope s__law_no_names) s.heap.objs.size fa cdv)).units + 200 < cLine := by have := hr.un; omega
    have hu1 : (A.deeper (envOfC "_law_no_names" (defScope s__law_no_names) s.heap.objs.size fa cdv)).units + 100 < cLine := by omega
    have hu2 : (A.deeper (envOfC "_law_no_names" (defScope s__law_no_names) s.heap.objs.size fa cdv)).units + 64 < cLine := by omega
    have hu : (A.deeper (envOfC "_law_no_names" (defScope s__law_no_names) s.heap.objs.size fa cdv)).units + 65 < cLine := by omega
    exact ⟨_, (dss_cons (ds_set 2 sc__law_no_names.nd (de_call h__law_take hg (hr.mono (by decide)) (by rfl) (da_cons (de_v 0) (da_cons (de_cb cr_len (by rfl) M.len (by decide +kernel) (da_cons (de_v 1) da_nil)) da_nil))))
    (dss_cons (ds_setLc 3 [("_law_sign", 4)] rfl sc__law_no_names.nd (dio_of (di_any (de_lst (da_cons de_str (da_cons de_str (da_cons de_str (da_cons de_str (da_cons de_str (da_cons de_str da_nil))))))))) (blkOk_by (by first | rfl | decide +kernel)) (fun _ _ _ _ _ => dgw_name 4 sc__law_no_names.nd) (fun _ _ _ _ _ => dts_nil) (fun _ _ _ _ _ => (de_bin or_add (de_bin or_add (de_sl (de_v 1) do_none (do_some (de_v 2))) (de_v 4)) (de_sl (de_v 1) (do_some (de_bin or_add (de_v 2) de_int)) do_none))))
    (dss_one (ds_ret (de_bin or_add (de_v 3) (de_lst (da_cons de_str (da_cons (de_sl (de_bin or_add (de_v 1) de_str) do_none (do_some de_int)) (da_cons de_int (da_cons de_non (da_cons de_bl (da_cons (de_tup (da_cons (de_v 1) da_nil)) (da_cons (de_lst (da_cons (de_v 1) da_nil)) da_nil)))))))))))))⟩

abbrev s__law_no_lots : Stmt := topS 20
theorem sc__law_no_lots : FnScope ["_law_box_here", "_law_lot_here", "_law_spot", "_law_found", "_law_at"] ["_law_box_here", "_law_lot_here"] (defScope s__law_no_lots) := ⟨rfl, rfl, rfl, by decide +kernel, rfl, by decide +kernel, by decide +kernel⟩
noncomputable def g__law_no_lots : DS :=
  (dSeq (dSet 2 (dCall f__law_take (dCons (dV 0) (dCons (dOp opAdd (dCB opLen (dCons (dV 1) dNil)) (dC (.int 1))) dNil))))
  (dSeq (dSet 3 (dLst (dCons (dCB opList (dCons (dV 1) dNil)) (dCons (dC .none) (dCons (dC (.int 3)) (dCons (dC (.str "a")) (dCons (dOp opAdd (dOp opAdd (dSl (dV 1) dNoP (dPart (dV 2))) (dTup (dCons (dC (.str "A")) dNil))) (dSl (dV 1) (dPart (dV 2)) dNoP)) (dCons (dOp opAdd (dOp opAdd (dSl (dV 1) dNoP (dPart (dV 2))) (dTup (dCons (dC (.int 1)) dNil))) (dSl (dV 1) (dPart (dV 2)) dNoP)) (dCons (dOp opAdd (dOp opAdd (dSl (dV 1) dNoP (dPart (dV 2))) (dTup (dCons (dTup (dCons (dC (.str "a")) dNil)) dNil))) (dSl (dV 1) (dPart (dV 2)) dNoP)) dNil)))))))))
  (dSeq (dIfS (dTest (dOp opGt (dCB opLen (dCons (dV 1) dNil)) (dC (.int 0)))) (dSeq (dSet 4 (dCall f__law_take (dCons (dV 0) (dCons (dCB opLen (dCons (dV 1) dNil)) dNil))))
  (dApp 3 (dOp opAdd (dOp opAdd (dSl (dV 1) dNoP (dPart (dV 4))) (dTup (dCons (dOp opIx (dV 1) (dV 4)) dNil))) (dSl (dV 1) (dPart (dV 4)) dNoP)))) dNx)
  (dSeq (dIfS (dTest (dOp opGt (dCB opLen (dCons (dV 1) dNil)) (dC (.int 1)))) (dSeq (dSet 4 (dCall f__law_take (dCons (dV 0) (dCons (dOp opSub (dCB opLen (dCons (dV 1) dNil)) (dC (.int 1))) dNil))))
  (dApp 3 (dOp opAdd (dOp opAdd (dSl (dV 1) dNoP (dPart (dV 4))) (dTup (dCons (dOp opIx (dV 1) (dOp opAdd (dV 4) (dC (.int 1)))) (dCons (dOp opIx (dV 1) (dV 4)) dNil)))) (dSl (dV 1) (dPart (dOp opAdd (dV 4) (dC (.int 2)))) dNoP)))) dNx)
  (dRet (dV 3))))))
noncomputable def f__law_no_lots : DFun := defOf 3 g__law_no_lots
theorem has__law_no_lots {P : Program} {w : World} {K : PySem.W.Frag} {mg : Str → Option Value} {base : Heap} {fa : Addr} {fd : FuncData} (F : Fun K "_law_no_lots" "_law_no_lots" s__law_no_lots fa fd) (hm : mg "_law_no_lots" = some (.ref fa)) (hb : Binds K fd ["_law_box_here", "_law_lot_here"] []) (M : Bl mg) (h__law_take : Has P w K mg base 1 "_law_take" ["_law_box_here", "_law_many"] f__law_take)  : Has P w K mg base 2 "_law_no_lots" ["_law_box_here", "_law_lot_here"] f__law_no_lots :=
  has_def (g := g__law_no_lots) F hm hb sc__law_no_lots rfl fun cdv A outer s H E hg hr => by
    have hu0 : (A.deeper (envOfC "_law_no_lots" (defScope s__law_no_lots) s.heap.objs.size fa cdv)).units + 200 < cLine := by have := hr.un; omega
    have hu1 : (A.deeper (envOfC "_law_no_lots" (defScope s__law_no_lots) s.heap.objs.size fa cdv)).units + 100 < cLine := by omega
    have hu2 : (A.deeper (envOfC "_law_no_lots" (defScope s__law_no_lots) s.heap.objs.size fa cdv)).units + 64 < cLine := by omega
    have hu : (A.deeper (envOfC "_law_no_lots" (defScope s__law_no_lots) s.heap.objs.size fa cdv)).units + 65 < cLine := by omega
    exact ⟨_, (dss_cons (ds_set 2 sc__law_no_lots.nd (de_call h__law_take hg (hr.mono (by decide)) (by rfl) (da_cons (de_v 0) (da_cons (de_bin or_add (de_cb cr_len (by rfl) M.len (by decide +kernel) (da_cons (de_v 1) da_nil)) de_int) da_nil))))
    (dss_cons (ds_set 3 sc__law_no_lots.nd (de_lst (da_cons (de_ct cr_list (by rfl) M.list_ (by decide +kernel) (da_cons (de_v 1) da_nil)) (da_cons de_non (da_cons de_int (da_cons de_str (da_cons (de_bin or_add (de_bin or_add (de_sl (de_v 1) do_none (do_some (de_v 2))) (de_tup (da_cons de_str da_nil))) (de_sl (de_v 1) (do_some (de_v 2)) do_none)) (da_cons (de_bin or_add (de_bin or_add (de_sl (de_v 1) do_none (do_some (de_v 2))) (de_tup (da_cons de_int da_nil))) (de_sl (de_v 1) (do_some (de_v 2)) do_none)) (da_cons (de_bin or_add (de_bin or_add (de_sl (de_v 1) do_none (do_some (de_v 2))) (de_tup (da_cons (de_tup (da_cons de_str da_nil)) da_nil))) (de_sl (de_v 1) (do_some (de_v 2)) do_none)) da_nil)))))))))
    (dss_cons (ds_if (dt_cmp or_gt (de_cb cr_len (by rfl) M.len (by decide +kernel) (da_cons (de_v 1) da_nil)) de_int) (dss_cons (ds_set 4 sc__law_no_lots.nd (de_call h__law_take hg (hr.mono (by decide)) (by rfl) (da_cons (de_v 0) (da_cons (de_cb cr_len (by rfl) M.len (by decide +kernel) (da_cons (de_v 1) da_nil)) da_nil))))
    (dss_one (ds_app 3 (de_bin or_add (de_bin or_add (de_sl (de_v 1) do_none (do_some (de_v 4))) (de_tup (da_cons (de_ix (de_v 1) (de_v 4)) da_nil))) (de_sl (de_v 1) (do_some (de_v 4)) do_none))))) dss_nil)
    (dss_cons (ds_if (dt_cmp or_gt (de_cb cr_len (by rfl) M.len (by decide +kernel) (da_cons (de_v 1) da_nil)) de_int) (dss_cons (ds_set 4 sc__law_no_lots.nd (de_call h__law_take hg (hr.mono (by decide)) (by rfl) (da_cons (de_v 0) (da_cons (de_bin or_sub (de_cb cr_len (by rfl) M.len (by decide +kernel) (da_cons (de_v 1) da_nil)) de_int) da_nil))))
    (dss_one (ds_app 3 (de_bin or_add (de_bin or_add (de_sl (de_v 1) do_none (do_some (de_v 4))) (de_tup (da_cons (de_ix (de_v 1) (de_bin or_add (de_v 4) de_int)) (da_cons (de_ix (de_v 1) (de_v 4)) da_nil)))) (de_sl (de_v 1) (do_some (de_bin or_add (de_v 4) de_int)) do_none))))) dss_nil)
    (dss_one (ds_ret (de_v 3)))))))⟩

abbrev s__law_pair_right : Stmt := topS 21
theorem sc__law_pair_right : FnScope ["_law_one", "_law_other", "_law_lots", "_law_within", "_law_due", "_law_name", "_law_lot_here"] ["_law_one", "_law_other", "_law_lots"] (defScope s__law_pair_right) := ⟨rfl, rfl, rfl, by decide +kernel, rfl, by decide +kernel, by decide +kernel⟩
noncomputable def g__law_pair_right : DS :=
  (dSeq (dIfS (dTest (dOp opNe (dCB opRepr (dCons (dCall f_common (dCons (dV 0) (dCons (dV 1) dNil))) dNil)) (dCB opRepr (dCons (dCB opTup (dCons (dLc [5] (dItV [5] 0) (dName 5) (dTest (dOp opIn (dV 5) (dV 1))) (dV 5)) dNil)) dNil)))) (dRet (dC (.bool false))) dNx)
  (dSeq (dIfS (dTest (dOp opNe (dCB opRepr (dCons (dCall f_united (dCons (dV 0) (dCons (dV 1) dNil))) dNil)) (dCB opRepr (dCons (dCB opTup (dCons (dCB opSort (dCons (dOp opAdd (dCB opList (dCons (dV 0) dNil)) (dLc [5] (dItV [5] 1) (dName 5) (dTest (dOp opNi (dV 5) (dV 0))) (dV 5))) dNil)) dNil)) dNil)))) (dRet (dC (.bool false))) dNx)
  (dSeq (dIfS (dTest (dOp opNe (dCB opRepr (dCons (dCall f_less (dCons (dV 0) (dCons (dV 1) dNil))) dNil)) (dCB opRepr (dCons (dCB opTup (dCons (dLc [5] (dItV [5] 0) (dName 5) (dTest (dOp opNi (dV 5) (dV 1))) (dV 5)) dNil)) dNil)))) (dRet (dC (.bool false))) dNx)
  (dSeq (dSet 3 (dOp opEq (dCB opLen (dCons (dLc [5] (dItV [5] 0) (dName 5) (dTest (dOp opNi (dV 5) (dV 1))) (dV 5)) dNil)) (dC (.int 0))))
  (dSeq (dIfS (dTest (dOp opNe (dCB opRepr (dCons (dCall f_is_part (dCons (dV 0) (dCons (dV 1) dNil))) dNil)) (dCB opRepr (dCons (dV 3) dNil)))) (dRet (dC (.bool false))) dNx)
  (dSeq (dSet 4 (dLc [6] (dItV [6] 2) (dName 6) (dAnd (dTest (dOp opEq (dCB opLen (dCons (dLc [5] (dItV [5] 0) (dName 5) (dTest (dOp opNi (dV 5) (dV 6))) (dV 5)) dNil)) (dC (.int 0)))) (dTest (dOp opEq (dCB opLen (dCons (dLc [5] (dItV [5] 6) (dName 5) (dTest (dOp opNi (dV 5) (dV 1))) (dV 5)) dNil)) (dC (.int 0))))) (dV 6)))
  (dRet (dAndV (dOp opEq (dCB opRepr (dCons (dCall f_lots_between (dCons (dV 0) (dCons (dV 1) dNil))) dNil)) (dCB opRepr (dCons (dCB opTup (dCons (dV 4) dNil)) dNil))) (dOp opEq (dOp opGt (dCB opLen (dCons (dV 4) dNil)) (dC (.int 0))) (dV 3))))))))))
noncomputable def f__law_pair_right : DFun := defOf 4 g__law_pair_right
theorem has__law_pair_right {P : Program} {w : World} {K : PySem.W.Frag} {mg : Str → Option Value} {base : Heap} {fa : Addr} {fd : FuncData} (F : Fun K "_law_pair_right" "_law_pair_right" s__law_pair_right fa fd) (hm : mg "_law_pair_right" = some (.ref fa)) (hb : Binds K fd ["_law_one", "_law_other", "_law_lots"] []) (M : Bl mg) (h_common : Has P w K mg base 1 "common" ["one", "other"] f_common) (h_united : Has P w K mg base 1 "united" ["one", "other"] f_united) (h_less : Has P w K mg base 1 "less" ["one", "other"] f_less) (h_is_part : Has P w K mg base 1 "is_part" ["one", "other"] f_is_part) (h_lots_between : Has P w K mg base 2 "lots_between" ["low", "high"] f_lots_between) (k_united : HasK P w K mg base 1 "united" ["one", "other"] f_united) : Has P w K mg base 3 "_law_pair_right" ["_law_one", "_law_other", "_law_lots"] f__law_pair_right :=
  has_def (g := g__law_pair_right) F hm hb sc__law_pair_right rfl fun cdv A outer s H E hg hr => by
    have hu0 : (A.deeper (envOfC "_law_pair_right" (defScope s__law_pair_right) s.heap.objs.size fa cdv)).units + 200 < cLine := by have := hr.un; omega
    have hu1 : (A.deeper (envOfC "_law_pair_right" (defScope s__law_pair_right) s.heap.objs.size fa cdv)).units + 100 < cLine := by omega
    have hu2 : (A.deeper (envOfC "_law_pair_right" (defScope s__law_pair_right) s.heap.objs.size fa cdv)).units + 64 < cLine := by omega
    have hu : (A.deeper (envOfC "_law_pair_right" (defScope s__law_pair_right) s.heap.objs.size fa cdv)).units + 65 < cLine := by omega
    exact ⟨_, (dss_cons (ds_if (dt_cmp (or_ne hu) (de_cb (cr_repr hg hu2) (by rfl) M.repr (by decide +kernel) (da_cons (de_call h_common hg (hr.mono (by decide)) (by rfl) (da_cons (de_v 0) (da_cons (de_v 1) da_nil))) da_nil)) (de_cb (cr_repr hg hu2) (by rfl) M.repr (by decide +kernel) (da_cons (de_ct cr_tup (by rfl) M.tuple_ (by decide +kernel) (da_cons (de_lc [("_law_name", 5)] rfl sc__law_pair_right.nd (dio_v 0) (blkOk_by (by first | rfl | decide +kernel)) (fun _ _ _ _ _ => dgw_name 5 sc__law_pair_right.nd) (fun _ _ _ _ _ => (dts_one (dt_cmp (or_in hu) (de_v 5) (de_v 1)))) (fun _ _ _ _ _ => (de_v 5))) da_nil)) da_nil))) (dss_one (ds_ret de_bl)) dss_nil)
    (dss_cons (ds_if (dt_cmp (or_ne hu) (de_cb (cr_repr hg hu2) (by rfl) M.repr (by decide +kernel) (da_cons (de_callK k_united hg (hr.mono (by decide)) (by rfl) (dk_cons (de_v 0) (dk_cons (de_v 1) dk_nil))) da_nil)) (de_cb (cr_repr hg hu2) (by rfl) M.repr (by decide +kernel) (da_cons (de_ct cr_tup (by rfl) M.tuple_ (by decide +kernel) (da_cons (de_cb (cr_sort hu1) (by rfl) M.sorted (by decide +kernel) (da_cons (de_bin or_add (de_ct cr_list (by rfl) M.list_ (by decide +kernel) (da_cons (de_v 0) da_nil)) (de_lc [("_law_name", 5)] rfl sc__law_pair_right.nd (dio_v 1) (blkOk_by (by first | rfl | decide +kernel)) (fun _ _ _ _ _ => dgw_name 5 sc__law_pair_right.nd) (fun _ _ _ _ _ => (dts_one (dt_cmp (or_ni hu) (de_v 5) (de_v 0)))) (fun _ _ _ _ _ => (de_v 5)))) da_nil)) da_nil)) da_nil))) (dss_one (ds_ret de_bl)) dss_nil)
    (dss_cons (ds_if (dt_cmp (or_ne hu) (de_cb (cr_repr hg hu2) (by rfl) M.repr (by decide +kernel) (da_cons (de_call h_less hg (hr.mono (by decide)) (by rfl) (da_cons (de_v 0) (da_cons (de_v 1) da_nil))) da_nil)) (de_cb (cr_repr hg hu2) (by rfl) M.repr (by decide +kernel) (da_cons (de_ct cr_tup (by rfl) M.tuple_ (by decide +kernel) (da_cons (de_lc [("_law_name", 5)] rfl sc__law_pair_right.nd (dio_v 0) (blkOk_by (by first | rfl | decide +kernel)) (fun _ _ _ _ _ => dgw_name 5 sc__law_pair_right.nd) (fun _ _ _ _ _ => (dts_one (dt_cmp (or_ni hu) (de_v 5) (de_v 1)))) (fun _ _ _ _ _ => (de_v 5))) da_nil)) da_nil))) (dss_one (ds_ret de_bl)) dss_nil)
    (dss_cons (ds_set 3 sc__law_pair_right.nd (de_cmp (or_eq hu) (de_cb cr_len (by rfl) M.len (by decide +kernel) (da_cons (de_lc [("_law_name", 5)] rfl sc__law_pair_right.nd (dio_v 0) (blkOk_by (by first | rfl | decide +kernel)) (fun _ _ _ _ _ => dgw_name 5 sc__law_pair_right.nd) (fun _ _ _ _ _ => (dts_one (dt_cmp (or_ni hu) (de_v 5) (de_v 1)))) (fun _ _ _ _ _ => (de_v 5))) da_nil)) de_int))
    (dss_cons (ds_if (dt_cmp (or_ne hu) (de_cb (cr_repr hg hu2) (by rfl) M.repr (by decide +kernel) (da_cons (de_call h_is_part hg (hr.mono (by decide)) (by rfl) (da_cons (de_v 0) (da_cons (de_v 1) da_nil))) da_nil)) (de_cb (cr_repr hg hu2) (by rfl) M.repr (by decide +kernel) (da_cons (de_v 3) da_nil))) (dss_one (ds_ret de_bl)) dss_nil)
    (dss_cons (ds_setLc 4 [("_law_lot_here", 6)] rfl sc__law_pair_right.nd (dio_v 2) (blkOk_by (by first | rfl | decide +kernel)) (fun _ _ _ _ _ => dgw_name 6 sc__law_pair_right.nd) (fun _ _ _ _ _ => (dts_one (dt_w (dw_and (dt_cmp (or_eq hu) (de_cb cr_len (by rfl) M.len (by decide +kernel) (da_cons (de_lc [("_law_name", 5)] rfl sc__law_pair_right.nd (dio_v 0) (blkOk_by (by first | rfl | decide +kernel)) (fun _ _ _ _ _ => dgw_name 5 sc__law_pair_right.nd) (fun _ _ _ _ _ => (dts_one (dt_cmp (or_ni hu) (de_v 5) (de_v 6)))) (fun _ _ _ _ _ => (de_v 5))) da_nil)) de_int) (dw_and1 (dt_cmp (or_eq hu) (de_cb cr_len (by rfl) M.len (by decide +kernel) (da_cons (de_lc [("_law_name", 5)] rfl sc__law_pair_right.nd (dio_v 6) (blkOk_by (by first | rfl | decide +kernel)) (fun _ _ _ _ _ => dgw_name 5 sc__law_pair_right.nd) (fun _ _ _ _ _ => (dts_one (dt_cmp (or_ni hu) (de_v 5) (de_v 1)))) (fun _ _ _ _ _ => (de_v 5))) da_nil)) de_int)))))) (fun _ _ _ _ _ => (de_v 6)))
    (dss_one (ds_ret (de_and (de_cmp (or_eq hu) (de_cb (cr_repr hg hu2) (by rfl) M.repr (by decide +kernel) (da_cons (de_call h_lots_between hg (hr.mono (by decide)) (by rfl) (da_cons (de_v 0) (da_cons (de_v 1) da_nil))) da_nil)) (de_cb (cr_repr hg hu2) (by rfl) M.repr (by decide +kernel) (da_cons (de_ct cr_tup (by rfl) M.tuple_ (by decide +kernel) (da_cons (de_v 4) da_nil)) da_nil))) (de_one (de_cmp (or_eq hu) (de_cmp or_gt (de_cb cr_len (by rfl) M.len (by decide +kernel) (da_cons (de_v 4) da_nil)) de_int) (de_v 3))))))))))))⟩

abbrev s__law_inside : Stmt := topS 22
theorem sc__law_inside : FnScope ["_law_one", "_law_other", "_law_name"] ["_law_one", "_law_other"] (defScope s__law_inside) := ⟨rfl, rfl, rfl, by decide +kernel, rfl, by decide +kernel, by decide +kernel⟩
noncomputable def g__law_inside : DS :=
  (dRet (dAndV (dOp opNe (dV 0) (dV 1)) (dOp opEq (dCB opLen (dCons (dLc [2] (dItV [2] 0) (dName 2) (dTest (dOp opNi (dV 2) (dV 1))) (dV 2)) dNil)) (dC (.int 0)))))
noncomputable def f__law_inside : DFun := defOf 1 g__law_inside
theorem has__law_inside {P : Program} {w : World} {K : PySem.W.Frag} {mg : Str → Option Value} {base : Heap} {fa : Addr} {fd : FuncData} (F : Fun K "_law_inside" "_law_inside" s__law_inside fa fd) (hm : mg "_law_inside" = some (.ref fa)) (hb : Binds K fd ["_law_one", "_law_other"] []) (M : Bl mg)   : Has P w K mg base 1 "_law_inside" ["_law_one", "_law_other"] f__law_inside :=
  has_def (g := g__law_inside) F hm hb sc__law_inside rfl fun cdv A outer s H E hg hr => by
    have hu0 : (A.deeper (envOfC "_law_inside" (defScope s__law_inside) s.heap.objs.size fa cdv)).units + 200 < cLine := by have := hr.un; omega
    have hu1 : (A.deeper (envOfC "_law_inside" (defScope s__law_inside) s.heap.objs.size fa cdv)).units + 100 < cLine := by omega
    have hu2 : (A.deeper (envOfC "_law_inside" (defScope s__law_inside) s.heap.objs.size fa cdv)).units + 64 < cLine := by omega
    have hu : (A.deeper (envOfC "_law_inside" (defScope s__law_inside) s.heap.objs.size fa cdv)).units + 65 < cLine := by omega
    exact ⟨_, (dss_one (ds_ret (de_and (de_cmp (or_ne hu) (de_v 0) (de_v 1)) (de_one (de_cmp (or_eq hu) (de_cb cr_len (by rfl) M.len (by decide +kernel) (da_cons (de_lc [("_law_name", 2)] rfl sc__law_inside.nd (dio_v 0) (blkOk_by (by first | rfl | decide +kernel)) (fun _ _ _ _ _ => dgw_name 2 sc__law_inside.nd) (fun _ _ _ _ _ => (dts_one (dt_cmp (or_ni hu) (de_v 2) (de_v 1)))) (fun _ _ _ _ _ => (de_v 2))) da_nil)) de_int)))))⟩

abbrev s__law_wide_right : Stmt := topS 23
theorem sc__law_wide_right : FnScope ["_law_box_here", "_law_wide", "_law_one", "_law_other", "_law_name"] ["_law_box_here"] (defScope s__law_wide_right) := ⟨rfl, rfl, rfl, by decide +kernel, rfl, by decide +kernel, by decide +kernel⟩
noncomputable def g__law_wide_right : DS :=
  (dSeq (dSet 1 (dCall f__law_names (dCons (dV 0) (dCons (dC (.int 10)) dNil))))
  (dSeq (dPar 2 3 (dCall f__law_lot (dCons (dV 0) (dCons (dV 1) dNil))) (dCall f__law_lot (dCons (dV 0) (dCons (dV 1) dNil))))
  (dSeq (dIfS (dTest (dOp opNe (dCB opRepr (dCons (dCall f_united (dCons (dV 2) (dCons (dV 3) dNil))) dNil)) (dCB opRepr (dCons (dCB opTup (dCons (dCB opSort (dCons (dOp opAdd (dCB opList (dCons (dV 2) dNil)) (dLc [4] (dItV [4] 3) (dName 4) (dTest (dOp opNi (dV 4) (dV 2))) (dV 4))) dNil)) dNil)) dNil)))) (dRet (dC (.bool false))) dNx)
  (dSeq (dIfS (dTest (dOp opNe (dCB opRepr (dCons (dCall f_common (dCons (dV 2) (dCons (dV 3) dNil))) dNil)) (dCB opRepr (dCons (dCB opTup (dCons (dLc [4] (dItV [4] 2) (dName 4) (dTest (dOp opIn (dV 4) (dV 3))) (dV 4)) dNil)) dNil)))) (dRet (dC (.bool false))) dNx)
  (dSeq (dIfS (dTest (dOp opNe (dCB opRepr (dCons (dCall f_less (dCons (dV 3) (dCons (dV 2) dNil))) dNil)) (dCB opRepr (dCons (dCB opTup (dCons (dLc [4] (dItV [4] 3) (dName 4) (dTest (dOp opNi (dV 4) (dV 2))) (dV 4)) dNil)) dNil)))) (dRet (dC (.bool false))) dNx)
  (dRet (dOp opEq (dCB opRepr (dCons (dCall f_parts_of (dCons (dCB opTup (dCons (dSl (dV 1) dNoP (dPart (dC (.int 7)))) dNil)) dNil)) dNil)) (dCB opRepr (dCons (dCB opTup (dCons (dCall f__law_all (dCons (dSl (dV 1) dNoP (dPart (dC (.int 7)))) dNil)) dNil)) dNil)))))))))
noncomputable def f__law_wide_right : DFun := defOf 4 g__law_wide_right
theorem has__law_wide_right {P : Program} {w : World} {K : PySem.W.Frag} {mg : Str → Option Value} {base : Heap} {fa : Addr} {fd : FuncData} (F : Fun K "_law_wide_right" "_law_wide_right" s__law_wide_right fa fd) (hm : mg "_law_wide_right" = some (.ref fa)) (hb : Binds K fd ["_law_box_here"] []) (M : Bl mg) (h_common : Has P w K mg base 1 "common" ["one", "other"] f_common) (h_united : Has P w K mg base 1 "united" ["one", "other"] f_united) (h_less : Has P w K mg base 1 "less" ["one", "other"] f_less) (h_parts_of : Has P w K mg base 1 "parts_of" ["lot"] f_parts_of) (h__law_names : Has P w K mg base 2 "_law_names" ["_law_box_here", "_law_many"] f__law_names) (h__law_lot : Has P w K mg base 2 "_law_lot" ["_law_box_here", "_law_names_here"] f__law_lot) (h__law_all : Has P w K mg base 1 "_law_all" ["_law_names_here"] f__law_all)  : Has P w K mg base 3 "_law_wide_right" ["_law_box_here"] f__law_wide_right :=
  has_def (g := g__law_wide_right) F hm hb sc__law_wide_right rfl fun cdv A outer s H E hg hr => by
    have hu0 : (A.deeper (envOfC "_law_wide_right" (defScope s__law_wide_right) s.heap.objs.size fa cdv)).units + 200 < cLine := by have := hr.un; omega
    have hu1 : (A.deeper (envOfC "_law_wide_right" (defScope s__law_wide_right) s.heap.objs.size fa cdv)).units + 100 < cLine := by omega
    have hu2 : (A.deeper (envOfC "_law_wide_right" (defScope s__law_wide_right) s.heap.objs.size fa cdv)).units + 64 < cLine := by omega
    have hu : (A.deeper (envOfC "_law_wide_right" (defScope s__law_wide_right) s.heap.objs.size fa cdv)).units + 65 < cLine := by omega
    exact ⟨_, (dss_cons (ds_set 1 sc__law_wide_right.nd (de_call h__law_names hg (hr.mono (by decide)) (by rfl) (da_cons (de_v 0) (da_cons de_int da_nil))))
    (dss_cons (ds_parT 2 3 rfl sc__law_wide_right.nd (de_call h__law_lot hg (hr.mono (by decide)) (by rfl) (da_cons (de_v 0) (da_cons (de_v 1) da_nil))) (de_call h__law_lot hg (hr.mono (by decide)) (by rfl) (da_cons (de_v 0) (da_cons (de_v 1) da_nil))))
    (dss_cons (ds_if (dt_cmp (or_ne hu) (de_cb (cr_repr hg hu2) (by rfl) M.repr (by decide +kernel) (da_cons (de_call h_united hg (hr.mono (by decide)) (by rfl) (da_cons (de_v 2) (da_cons (de_v 3) da_nil))) da_nil)) (de_cb (cr_repr hg hu2) (by rfl) M.repr (by decide +kernel) (da_cons (de_ct cr_tup (by rfl) M.tuple_ (by decide +kernel) (da_cons (de_cb (cr_sort hu1) (by rfl) M.sorted (by decide +kernel) (da_cons (de_bin or_add (de_ct cr_list (by rfl) M.list_ (by decide +kernel) (da_cons (de_v 2) da_nil)) (de_lc [("_law_name", 4)] rfl sc__law_wide_right.nd (dio_v 3) (blkOk_by (by first | rfl | decide +kernel)) (fun _ _ _ _ _ => dgw_name 4 sc__law_wide_right.nd) (fun _ _ _ _ _ => (dts_one (dt_cmp (or_ni hu) (de_v 4) (de_v 2)))) (fun _ _ _ _ _ => (de_v 4)))) da_nil)) da_nil)) da_nil))) (dss_one (ds_ret de_bl)) dss_nil)
    (dss_cons (ds_if (dt_cmp (or_ne hu) (de_cb (cr_repr hg hu2) (by rfl) M.repr (by decide +kernel) (da_cons (de_call h_common hg (hr.mono (by decide)) (by rfl) (da_cons (de_v 2) (da_cons (de_v 3) da_nil))) da_nil)) (de_cb (cr_repr hg hu2) (by rfl) M.repr (by decide +kernel) (da_cons (de_ct cr_tup (by rfl) M.tuple_ (by decide +kernel) (da_cons (de_lc [("_law_name", 4)] rfl sc__law_wide_right.nd (dio_v 2) (blkOk_by (by first | rfl | decide +kernel)) (fun _ _ _ _ _ => dgw_name 4 sc__law_wide_right.nd) (fun _ _ _ _ _ => (dts_one (dt_cmp (or_in hu) (de_v 4) (de_v 3)))) (fun _ _ _ _ _ => (de_v 4))) da_nil)) da_nil))) (dss_one (ds_ret de_bl)) dss_nil)
    (dss_cons (ds_if (dt_cmp (or_ne hu) (de_cb (cr_repr hg hu2) (by rfl) M.repr (by decide +kernel) (da_cons (de_call h_less hg (hr.mono (by decide)) (by rfl) (da_cons (de_v 3) (da_cons (de_v 2) da_nil))) da_nil)) (de_cb (cr_repr hg hu2) (by rfl) M.repr (by decide +kernel) (da_cons (de_ct cr_tup (by rfl) M.tuple_ (by decide +kernel) (da_cons (de_lc [("_law_name", 4)] rfl sc__law_wide_right.nd (dio_v 3) (blkOk_by (by first | rfl | decide +kernel)) (fun _ _ _ _ _ => dgw_name 4 sc__law_wide_right.nd) (fun _ _ _ _ _ => (dts_one (dt_cmp (or_ni hu) (de_v 4) (de_v 2)))) (fun _ _ _ _ _ => (de_v 4))) da_nil)) da_nil))) (dss_one (ds_ret de_bl)) dss_nil)
    (dss_one (ds_ret (de_cmp (or_eq hu) (de_cb (cr_repr hg hu2) (by rfl) M.repr (by decide +kernel) (da_cons (de_call h_parts_of hg (hr.mono (by decide)) (by rfl) (da_cons (de_ct cr_tup (by rfl) M.tuple_ (by decide +kernel) (da_cons (de_sl (de_v 1) do_none (do_some de_int)) da_nil)) da_nil)) da_nil)) (de_cb (cr_repr hg hu2) (by rfl) M.repr (by decide +kernel) (da_cons (de_ct cr_tup (by rfl) M.tuple_ (by decide +kernel) (da_cons (de_call h__law_all hg (hr.mono (by decide)) (by rfl) (da_cons (de_sl (de_v 1) do_none (do_some de_int)) da_nil)) da_nil)) da_nil))))))))))⟩

abbrev s_law : Stmt := topS 24
theorem sc_law : FnScope ["_law_script", "_law_k", "_law_box_here", "_law_names_here", "_law_lots", "_law_known", "_law_turn", "_law_one", "_law_other", "_law_row", "_law_kept", "_law_some", "_law_least", "_law_greatest", "_law_name", "_law_bad", "_law_lot_here"] ["_law_script"] (defScope s_law) := ⟨rfl, rfl, rfl, by decide +kernel, rfl, by decide +kernel, by decide +kernel⟩
noncomputable def g_law : DS :=
  (dSeq (dFor (dRng1 (dCons (dCB opMax (dCons (dC (.int 1)) (dCons (dCB opMin (dCons (dC (.int 3)) (dCons (dCB opLen (dCons (dV 0) dNil)) dNil))) dNil))) dNil)) (dName 1) (dBlk 2 (dCall f__law_box (dCons (dV 0) (dCons (dV 1) dNil)))
  (dSeq (dSet 3 (dCall f__law_names (dCons (dV 2) (dCons (dOp opAdd (dC (.int 1)) (dCall f__law_take (dCons (dV 2) (dCons (dC (.int 5)) dNil)))) dNil))))
  (dSeq (dPar 4 5 (dCall f__law_all (dCons (dV 3) dNil)) (dCB opList (dCons (dV 3) dNil)))
  (dSeq (dIfS (dOr (dTest (dOp opNe (dCB opRepr (dCons (dCall f_parts_of (dCons (dCB opTup (dCons (dV 3) dNil)) dNil)) dNil)) (dCB opRepr (dCons (dCB opTup (dCons (dV 4) dNil)) dNil)))) (dTest (dOp opNe (dCB opRepr (dCons (dCall f_parts_of (dCons (dTup dNil) dNil)) dNil)) (dC (.str "((),)"))))) (dRet (dC (.bool false))) dNx)
  (dSeq (dFor (dRng1 (dCons (dC (.int 4)) dNil)) (dName 6) (dSeq (dPar 7 8 (dCall f__law_pick (dCons (dV 2) (dCons (dV 4) dNil))) (dCall f__law_pick (dCons (dV 2) (dCons (dV 4) dNil))))
  (dSeq (dIfS (dTest (dOp opEq (dV 6) (dC (.int 1)))) (dSet 7 (dCB opTup (dCons (dLc [14] (dItV [14] 7) (dName 14) (dTest (dOp opIn (dV 14) (dV 8))) (dV 14)) dNil))) dNx)
  (dSeq (dIfS (dOr (dNot (dTest (dCall f__law_pair_right (dCons (dV 7) (dCons (dV 8) (dCons (dV 4) dNil)))))) (dNot (dTest (dCall f__law_pair_right (dCons (dV 8) (dCons (dV 7) (dCons (dV 4) dNil))))))) (dRet (dC (.bool false))) dNx)
  (dIfS (dOr (dTest (dOp opIsNot (dCall f_is_lot (dCons (dV 7) dNil)) (dC (.bool true)))) (dTest (dOp opIn (dC (.bool true)) (dLc [15] (dIo (dItems (dCall f__law_no_lots (dCons (dV 2) (dCons (dV 7) dNil))))) (dName 15) dYes (dCall f_is_lot (dCons (dV 15) dNil)))))) (dRet (dC (.bool false))) dNx)))))
  (dSeq (dSet 9 (dLc [6] (dIo (dRng1 (dCons (dCall f__law_take (dCons (dV 2) (dCons (dC (.int 7)) dNil))) dNil))) (dName 6) dYes (dCall f__law_pick (dCons (dV 2) (dCons (dV 4) dNil)))))
  (dSeq (dSet 9 (dOp opAdd (dV 9) (dSl (dV 9) dNoP (dPart (dCall f__law_take (dCons (dV 2) (dCons (dC (.int 3)) dNil)))))))
  (dSeq (dPar 10 11 (dCB opList (dCons (dV 9) dNil)) (dLc [16] (dItV [16] 4) (dName 16) (dTest (dOp opIn (dV 16) (dV 9))) (dV 16)))
  (dSeq (dSet 12 (dLc [16] (dItV [16] 11) (dName 16) (dTest (dOp opEq (dCB opLen (dCons (dLc [8] (dItV [8] 11) (dName 8) (dTest (dCall f__law_inside (dCons (dV 8) (dCons (dV 16) dNil)))) (dV 8)) dNil)) (dC (.int 0)))) (dV 16)))
  (dSeq (dSet 13 (dLc [16] (dItV [16] 11) (dName 16) (dTest (dOp opEq (dCB opLen (dCons (dLc [8] (dItV [8] 11) (dName 8) (dTest (dCall f__law_inside (dCons (dV 16) (dCons (dV 8) dNil)))) (dV 8)) dNil)) (dC (.int 0)))) (dV 16)))
  (dSeq (dFor (dRng1 (dCons (dC (.int 2)) dNil)) (dName 6) (dIfS (dOr (dTest (dOp opNe (dCB opRepr (dCons (dCall f_least_lots (dCons (dV 9) dNil)) dNil)) (dCB opRepr (dCons (dCB opTup (dCons (dV 12) dNil)) dNil)))) (dTest (dOp opNe (dCB opRepr (dCons (dCall f_greatest_lots (dCons (dCB opTup (dCons (dV 9) dNil)) dNil)) dNil)) (dCB opRepr (dCons (dCB opTup (dCons (dV 13) dNil)) dNil))))) (dRet (dC (.bool false))) dNx))
  (dSeq (dIfS (dOr (dTest (dOp opNe (dV 9) (dV 10))) (dTest (dOp opNe (dV 3) (dV 5)))) (dRet (dC (.bool false))) dNx)
  (dSeq (dIfS (dNot (dTest (dCall f__law_wide_right (dCons (dV 2) dNil)))) (dRet (dC (.bool false))) dNx)
  (dSeq (dSet 14 (dCall f__law_pick (dCons (dV 2) (dCons (dV 3) dNil))))
  (dIfS (dOr (dTest (dOp opIsNot (dCall f_is_name (dCons (dV 14) dNil)) (dC (.bool true)))) (dTest (dOp opIn (dC (.bool true)) (dLc [15] (dIo (dItems (dCall f__law_no_names (dCons (dV 2) (dCons (dV 14) dNil))))) (dName 15) dYes (dCall f_is_name (dCons (dV 15) dNil)))))) (dRet (dC (.bool false))) dNx))))))))))))))))
  (dRet (dC (.bool true))))
noncomputable def f_law : DFun := defOf 16 g_law
theorem has_law {P : Program} {w : World} {K : PySem.W.Frag} {mg : Str → Option Value} {base : Heap} {fa : Addr} {fd : FuncData} (F : Fun K "law" "law" s_law fa fd) (hm : mg "law" = some (.ref fa)) (hb : Binds K fd ["_law_script"] []) (M : Bl mg) (h_is_name : Has P w K mg base 1 "is_name" ["value"] f_is_name) (h_is_lot : Has P w K mg base 2 "is_lot" ["value"] f_is_lot) (h_parts_of : Has P w K mg base 1 "parts_of" ["lot"] f_parts_of) (h_least_lots : Has P w K mg base 2 "least_lots" ["lots"] f_least_lots) (h_greatest_lots : Has P w K mg base 2 "greatest_lots" ["lots"] f_greatest_lots) (h__law_box : Has P w K mg base 1 "_law_box" ["_law_script", "_law_k"] f__law_box) (h__law_take : Has P w K mg base 1 "_law_take" ["_law_box_here", "_law_many"] f__law_take) (h__law_pick : Has P w K mg base 2 "_law_pick" ["_law_box_here", "_law_some"] f__law_pick) (h__law_names : Has P w K mg base 2 "_law_names" ["_law_box_here", "_law_many"] f__law_names) (h__law_all : Has P w K mg base 1 "_law_all" ["_law_names_here"] f__law_all) (h__law_no_names : Has P w K mg base 2 "_law_no_names" ["_law_box_here", "_law_name"] f__law_no_names) (h__law_no_lots : Has P w K mg base 2 "_law_no_lots" ["_law_box_here", "_law_lot_here"] f__law_no_lots) (h__law_pair_right : Has P w K mg base 3 "_law_pair_right" ["_law_one", "_law_other", "_law_lots"] f__law_pair_right) (h__law_inside : Has P w K mg base 1 "_law_inside" ["_law_one", "_law_other"] f__law_inside) (h__law_wide_right : Has P w K mg base 3 "_law_wide_right" ["_law_box_here"] f__law_wide_right)  : Has P w K mg base 4 "law" ["_law_script"] f_law :=
  has_def (g := g_law) F hm hb sc_law rfl fun cdv A outer s H E hg hr => by
    have hu0 : (A.deeper (envOfC "law" (defScope s_law) s.heap.objs.size fa cdv)).units + 200 < cLine := by have := hr.un; omega
    have hu1 : (A.deeper (envOfC "law" (defScope s_law) s.heap.objs.size fa cdv)).units + 100 < cLine := by omega
    have hu2 : (A.deeper (envOfC "law" (defScope s_law) s.heap.objs.size fa cdv)).units + 64 < cLine := by omega
    have hu : (A.deeper (envOfC "law" (defScope s_law) s.heap.objs.size fa cdv)).units + 65 < cLine := by omega
    exact ⟨_, (dss_cons (ds_for PassesOwn.never rfl (di_rng1 (by rfl) M.range (da_cons (de_cb (cr_max rfl) (by rfl) M.max (by decide +kernel) (da_cons de_int (da_cons (de_cb (cr_min rfl) (by rfl) M.min (by decide +kernel) (da_cons de_int (da_cons (de_cb cr_len (by rfl) M.len (by decide +kernel) (da_cons (de_v 0) da_nil)) da_nil))) da_nil))) da_nil)) (dg_name 1 sc_law.nd) (dss_blk 2 sc_law.nd (de_call h__law_box hg (hr.mono (by decide)) (by rfl) (da_cons (de_v 0) (da_cons (de_v 1) da_nil)))
    (dss_cons (ds_set 3 sc_law.nd (de_call h__law_names hg (hr.mono (by decide)) (by rfl) (da_cons (de_v 2) (da_cons (de_bin or_add de_int (de_call h__law_take hg (hr.mono (by decide)) (by rfl) (da_cons (de_v 2) (da_cons de_int da_nil)))) da_nil))))
    (dss_cons (ds_parT 4 5 rfl sc_law.nd (de_call h__law_all hg (hr.mono (by decide)) (by rfl) (da_cons (de_v 3) da_nil)) (de_ct cr_list (by rfl) M.list_ (by decide +kernel) (da_cons (de_v 3) da_nil)))
    (dss_cons (ds_if (dt_w (dw_or (dt_cmp (or_ne hu) (de_cb (cr_repr hg hu2) (by rfl) M.repr (by decide +kernel) (da_cons (de_call h_parts_of hg (hr.mono (by decide)) (by rfl) (da_cons (de_ct cr_tup (by rfl) M.tuple_ (by decide +kernel) (da_cons (de_v 3) da_nil)) da_nil)) da_nil)) (de_cb (cr_repr hg hu2) (by rfl) M.repr (by decide +kernel) (da_cons (de_ct cr_tup (by rfl) M.tuple_ (by decide +kernel) (da_cons (de_v 4) da_nil)) da_nil))) (dw_or1 (dt_cmp (or_ne hu) (de_cb (cr_repr hg hu2) (by rfl) M.repr (by decide +kernel) (da_cons (de_call h_parts_of hg (hr.mono (by decide)) (by rfl) (da_cons (de_tup da_nil) da_nil)) da_nil)) de_str)))) (dss_one (ds_ret de_bl)) dss_nil)
    (dss_cons (ds_for PassesOwn.never rfl (di_rng1 (by rfl) M.range (da_cons de_int da_nil)) (dg_name 6 sc_law.nd) (dss_cons (ds_parT 7 8 rfl sc_law.nd (de_call h__law_pick hg (hr.mono (by decide)) (by rfl) (da_cons (de_v 2) (da_cons (de_v 4) da_nil))) (de_call h__law_pick hg (hr.mono (by decide)) (by rfl) (da_cons (de_v 2) (da_cons (de_v 4) da_nil))))
    (dss_cons (ds_if (dt_cmp (or_eq hu) (de_v 6) de_int) (dss_one (ds_set 7 sc_law.nd (de_ct cr_tup (by rfl) M.tuple_ (by decide +kernel) (da_cons (de_lc [("_law_name", 14)] rfl sc_law.nd (dio_v 7) (blkOk_by (by first | rfl | decide +kernel)) (fun _ _ _ _ _ => dgw_name 14 sc_law.nd) (fun _ _ _ _ _ => (dts_one (dt_cmp (or_in hu) (de_v 14) (de_v 8)))) (fun _ _ _ _ _ => (de_v 14))) da_nil)))) dss_nil)
    (dss_cons (ds_if (dt_w (dw_or (dt_not (dt_val (de_call h__law_pair_right hg (hr.mono (by decide)) (by rfl) (da_cons (de_v 7) (da_cons (de_v 8) (da_cons (de_v 4) da_nil)))))) (dw_or1 (dt_not (dt_val (de_call h__law_pair_right hg (hr.mono (by decide)) (by rfl) (da_cons (de_v 8) (da_cons (de_v 7) (da_cons (de_v 4) da_nil))))))))) (dss_one (ds_ret de_bl)) dss_nil)
    (dss_one (ds_if (dt_w (dw_or (dt_cmp or_isNot (de_call h_is_lot hg (hr.mono (by decide)) (by rfl) (da_cons (de_v 7) da_nil)) de_bl) (dw_or1 (dt_cmp (or_in hu) de_bl (de_lc [("_law_bad", 15)] rfl sc_law.nd (dio_of (di_any (de_call h__law_no_lots hg (hr.mono (by decide)) (by rfl) (da_cons (de_v 2) (da_cons (de_v 7) da_nil))))) (blkOk_by (by first | rfl | decide +kernel)) (fun _ _ _ _ _ => dgw_name 15 sc_law.nd) (fun _ _ _ _ _ => dts_nil) (fun _ _ _ _ _ => (de_call h_is_lot hg (hr.mono (by decide)) (by rfl) (da_cons (de_v 15) da_nil)))))))) (dss_one (ds_ret de_bl)) dss_nil))))))
    (dss_cons (ds_set 9 sc_law.nd (de_lc [("_law_turn", 6)] rfl sc_law.nd (dio_of (di_rng1 (by rfl) M.range (da_cons (de_call h__law_take hg (hr.mono (by decide)) (by rfl) (da_cons (de_v 2) (da_cons de_int da_nil))) da_nil))) (blkOk_by (by first | rfl | decide +kernel)) (fun _ _ _ _ _ => dgw_name 6 sc_law.nd) (fun _ _ _ _ _ => dts_nil) (fun _ _ _ _ _ => (de_call h__law_pick hg (hr.mono (by decide)) (by rfl) (da_cons (de_v 2) (da_cons (de_v 4) da_nil))))))
    (dss_cons (ds_set 9 sc_law.nd (de_bin or_add (de_v 9) (de_sl (de_v 9) do_none (do_some (de_call h__law_take hg (hr.mono (by decide)) (by rfl) (da_cons (de_v 2) (da_cons de_int da_nil)))))))
    (dss_cons (ds_parT 10 11 rfl sc_law.nd (de_ct cr_list (by rfl) M.list_ (by decide +kernel) (da_cons (de_v 9) da_nil)) (de_lc [("_law_lot_here", 16)] rfl sc_law.nd (dio_v 4) (blkOk_by (by first | rfl | decide +kernel)) (fun _ _ _ _ _ => dgw_name 16 sc_law.nd) (fun _ _ _ _ _ => (dts_one (dt_cmp (or_in hu) (de_v 16) (de_v 9)))) (fun _ _ _ _ _ => (de_v 16))))
    (dss_cons (ds_setLc 12 [("_law_lot_here", 16)] rfl sc_law.nd (dio_v 11) (blkOk_by (by first | rfl | decide +kernel)) (fun _ _ _ _ _ => dgw_name 16 sc_law.nd) (fun _ _ _ _ _ => (dts_one (dt_cmp (or_eq hu) (de_cb cr_len (by rfl) M.len (by decide +kernel) (da_cons (de_lc [("_law_other", 8)] rfl sc_law.nd (dio_v 11) (blkOk_by (by first | rfl | decide +kernel)) (fun _ _ _ _ _ => dgw_name 8 sc_law.nd) (fun _ _ _ _ _ => (dts_one (dt_val (de_call h__law_inside hg (hr.mono (by decide)) (by rfl) (da_cons (de_v 8) (da_cons (de_v 16) da_nil)))))) (fun _ _ _ _ _ => (de_v 8))) da_nil)) de_int))) (fun _ _ _ _ _ => (de_v 16)))
    (dss_cons (ds_setLc 13 [("_law_lot_here", 16)] rfl sc_law.nd (dio_v 11) (blkOk_by (by first | rfl | decide +kernel)) (fun _ _ _ _ _ => dgw_name 16 sc_law.nd) (fun _ _ _ _ _ => (dts_one (dt_cmp (or_eq hu) (de_cb cr_len (by rfl) M.len (by decide +kernel) (da_cons (de_lc [("_law_other", 8)] rfl sc_law.nd (dio_v 11) (blkOk_by (by first | rfl | decide +kernel)) (fun _ _ _ _ _ => dgw_name 8 sc_law.nd) (fun _ _ _ _ _ => (dts_one (dt_val (de_call h__law_inside hg (hr.mono (by decide)) (by rfl) (da_cons (de_v 16) (da_cons (de_v 8) da_nil)))))) (fun _ _ _ _ _ => (de_v 8))) da_nil)) de_int))) (fun _ _ _ _ _ => (de_v 16)))
    (dss_cons (ds_for PassesOwn.never rfl (di_rng1 (by rfl) M.range (da_cons de_int da_nil)) (dg_name 6 sc_law.nd) (dss_one (ds_if (dt_w (dw_or (dt_cmp (or_ne hu) (de_cb (cr_repr hg hu2) (by rfl) M.repr (by decide +kernel) (da_cons (de_call h_least_lots hg (hr.mono (by decide)) (by rfl) (da_cons (de_v 9) da_nil)) da_nil)) (de_cb (cr_repr hg hu2) (by rfl) M.repr (by decide +kernel) (da_cons (de_ct cr_tup (by rfl) M.tuple_ (by decide +kernel) (da_cons (de_v 12) da_nil)) da_nil))) (dw_or1 (dt_cmp (or_ne hu) (de_cb (cr_repr hg hu2) (by rfl) M.repr (by decide +kernel) (da_cons (de_call h_greatest_lots hg (hr.mono (by decide)) (by rfl) (da_cons (de_ct cr_tup (by rfl) M.tuple_ (by decide +kernel) (da_cons (de_v 9) da_nil)) da_nil)) da_nil)) (de_cb (cr_repr hg hu2) (by rfl) M.repr (by decide +kernel) (da_cons (de_ct cr_tup (by rfl) M.tuple_ (by decide +kernel) (da_cons (de_v 13) da_nil)) da_nil)))))) (dss_one (ds_ret de_bl)) dss_nil)))
    (dss_cons (ds_if (dt_w (dw_or (dt_cmp (or_ne hu) (de_v 9) (de_v 10)) (dw_or1 (dt_cmp (or_ne hu) (de_v 3) (de_v 5))))) (dss_one (ds_ret de_bl)) dss_nil)
    (dss_cons (ds_if (dt_not (dt_val (de_call h__law_wide_right hg (hr.mono (by decide)) (by rfl) (da_cons (de_v 2) da_nil)))) (dss_one (ds_ret de_bl)) dss_nil)
    (dss_cons (ds_set 14 sc_law.nd (de_call h__law_pick hg (hr.mono (by decide)) (by rfl) (da_cons (de_v 2) (da_cons (de_v 3) da_nil))))
    (dss_one (ds_if (dt_w (dw_or (dt_cmp or_isNot (de_call h_is_name hg (hr.mono (by decide)) (by rfl) (da_cons (de_v 14) da_nil)) de_bl) (dw_or1 (dt_cmp (or_in hu) de_bl (de_lc [("_law_bad", 15)] rfl sc_law.nd (dio_of (di_any (de_call h__law_no_names hg (hr.mono (by decide)) (by rfl) (da_cons (de_v 2) (da_cons (de_v 14) da_nil))))) (blkOk_by (by first | rfl | decide +kernel)) (fun _ _ _ _ _ => dgw_name 15 sc_law.nd) (fun _ _ _ _ _ => dts_nil) (fun _ _ _ _ _ => (de_call h_is_name hg (hr.mono (by decide)) (by rfl) (da_cons (de_v 15) da_nil)))))))) (dss_one (ds_ret de_bl)) dss_nil)))))))))))))))))
    (dss_one (ds_ret de_bl)))⟩
end XN

set_option maxRecDepth 100000
set_option maxHeartbeats 4000000
/-! what the program's defs about lots compute -/
namespace XN
open PySem PySem.Spec PyProof.Rows L2 Evl

theorem mem_strsD {x : PyData} {l : List Str} (h : x ∈ strsD l) : ∃ z ∈ l, x = .str z := by
  obtain ⟨z, hz, e⟩ := List.mem_map.mp h
  exact ⟨z, hz, e.symm⟩
theorem mem_lotsD {x : PyData} {l : List (List Str)} (h : x ∈ lotsD l) : ∃ z ∈ l, x = lotD z := by
  obtain ⟨z, hz, e⟩ := List.mem_map.mp h
  exact ⟨z, hz, e.symm⟩
def inB (l : List Str) : PyData → Bool
  | .str a => decide (a ∈ l)
  | _ => false
def niB (l : List Str) : PyData → Bool
  | .str a => !decide (a ∈ l)
  | _ => false
theorem filter_strs (p : PyData → Bool) (l : List Str) : (strsD l).filter p = strsD (l.filter fun z => p (.str z)) := by
  induction l with
  | nil => rfl
  | cons z l ih =>
    show (PyData.str z :: strsD l).filter p = _
    rw [List.filter_cons, List.filter_cons, ih]
    split <;> rfl
theorem filter_lots (p : PyData → Bool) (l : List (List Str)) : (lotsD l).filter p = lotsD (l.filter fun z => p (lotD z)) := by
  induction l with
  | nil => rfl
  | cons z l ih =>
    show (lotD z :: lotsD l).filter p = _
    rw [List.filter_cons, List.filter_cons, ih]
    split <;> rfl
def Few {α : Type} (l : List α) : Prop := l.length < 1000
theorem few_filter {α : Type} {p : α → Bool} {l : List α} (h : Few l) : Few (l.filter p) := Nat.lt_of_le_of_lt (List.length_filter_le p l) h
theorem few_strs {l : List Str} (h : Few l) : (strsD l).length < 100000 := by
  show (l.map PyData.str).length < 100000
  rw [List.length_map]
  exact Nat.lt_trans h (by decide)
theorem items_lot (l : List Str) : items (lotD l) = some (strsD l) := rfl
theorem oks_filter {p : Str → Bool} {l : List Str} (h : Oks l) : Oks (l.filter p) := fun z m => h z (List.mem_filter.mp m).1
def commonL (l1 l2 : List Str) : List Str := l1.filter fun z => decide (z ∈ l2)
def lessL (l1 l2 : List Str) : List Str := l1.filter fun z => !decide (z ∈ l2)
def partL (l1 l2 : List Str) : Bool := l1.all fun z => decide (z ∈ l2)
def unitedL (l1 l2 : List Str) : List Str := sortS (undup (l1 ++ l2))
theorem f_common_is {l1 l2 : List Str} {b : List Int} (h1 : Oks l1) (h2 : Oks l2) (few : Few l1) : f_common [.d (lotD l1), .d (lotD l2)] b = some (.d (lotD (commonL l1 l2)), b) := by
  unfold f_common g_common
  have key := lc_map (vs := [2]) (on := none) (all := strsD l1) (i := 2) (c := dTest (dOp opIn (dV 2) (dV 1))) (f := dV 2) (e := [some (.d (lotD l1)), some (.d (lotD l2)), none]) (b := b) (inB l2) id chk_none (Nat.lt_succ_self 2) (fun x => rfl) (strsD l1) (fun x hx => by
      obtain ⟨z, hz, rfl⟩ := mem_strsD hx
      simp only [e_op4, e_op3, e_op2, e_op1, e_op, e_un2, e_un1, e_un, e_seq_nx, e_seq_rt, e_seq_bk, e_seq_ct, e_seq, e_nx, e_bk, e_ct, e_put, e_set1, e_set, e_drop1, e_drop, e_ret1, e_ret, e_retN, e_if_t, e_if_f, e_ifS, e_ifE, e_test1, e_test, e_not1, e_not, e_and_t, e_and_f, e_and, e_or_t, e_or_f, e_or, e_andV_t, e_andV_f, e_andV, e_orV_t, e_orV_f, e_orV, e_notV1, e_notV, e_nil, e_cons2, e_cons1, e_cons, e_tk2, e_tk1, e_tk0, e_tk, e_tup2, e_tup1, e_tup, e_lst2, e_lst1, e_lst, e_da1, e_da0, e_da, e_cb2, e_cb1, e_cb, e_v_d, e_v_o, e_v_b, e_v, e_c, e_h_d, e_h_f, e_h_s, e_h_b, e_at1, e_at, e_lm, e_d_d, e_d_f, e_d_s, e_d_b, e_ts, e_t_d, e_t_f, e_t_s, e_p_d, e_p_l, e_p_t, e_put_d, e_put_f, e_put_b, e_bx1, e_bx, e_ap2, e_ap1, e_ap0, e_apS, e_ap, e_arg2, e_arg1, e_arg0, e_arg_b, e_arg_d, e_arg_s, e_cl3, e_cl2, e_cl1, e_cl, e_rv_d, e_rv_o, e_rv_b, e_df2, e_df_r, e_df_n, e_df, e_om, e_r_d, e_r_f, e_r_s, e_r_b, e_ff_n, e_ff_c, e_ff_b, e_ff_r, e_fg, e_fr1, e_fr, e_nm, e_im, e_it2, e_it1, e_it, e_i_l, e_i_t, e_lc3, e_lc1, e_lc, e_io1, e_io, e_iv2, e_iv_d, e_iv_o, e_iv, e_ch6, e_ch5, e_ch4t, e_ch4f, e_ch3, e_ch2, e_ch1, e_ch, e_so_d, e_so_f, e_pr3, e_pr2, e_pr1, e_pr, e_sl4, e_sl3, e_sl2, e_sl1, e_sl, e_nop, e_pt1, e_pt, o_sl_l, o_sl_t, e_yes, e_wp, e_wp0, e_wp1, e_re0, e_re1, e_kd_d, e_kd_o, e_kd_b, e_kd_n, o_add_i, o_add_s, o_add_l, o_add_t, o_sub, o_mul, o_div, o_mod, o_pow, o_lt_i, o_lt_s, o_le_i, o_le_s, o_gt_i, o_ge_i, o_ix_l, o_ix_t, o_ixK, o_len_l, o_len_t, o_len_s, o_int_i, o_int_b, o_abs, o_max, o_min, o_lst_l, o_lst_t, o_tup_l, o_tup_t, List.map_cons, List.map_nil, List.append_nil, List.nil_append, List.cons_append, List.length_cons, List.length_nil, List.getElem?_cons_zero, List.getElem?_cons_succ, List.set_cons_zero, List.set_cons_succ, if_true, if_false, List.replicate_zero, List.replicate_succ, List.length_set, Bool.not_true, Bool.not_false, decide_true, decide_false, true_and, and_true, Nat.reduceAdd, Nat.reduceLT, Nat.reduceLeDiff, reduceIte, reduceCtorEq, in_lot (h1 z hz) h2]
      rfl) fun x hx _ => by
      obtain ⟨z, hz, rfl⟩ := mem_strsD hx
      exact ⟨.d (.str z), rfl, rfl⟩
  rw [List.map_id, filter_strs] at key
  have sz := few_strs (few_filter (p := fun z => inB l2 (.str z)) few)
  simp only [e_op4, e_op3, e_op2, e_op1, e_op, e_un2, e_un1, e_un, e_seq_nx, e_seq_rt, e_seq_bk, e_seq_ct, e_seq, e_nx, e_bk, e_ct, e_put, e_set1, e_set, e_drop1, e_drop, e_ret1, e_ret, e_retN, e_if_t, e_if_f, e_ifS, e_ifE, e_test1, e_test, e_not1, e_not, e_and_t, e_and_f, e_and, e_or_t, e_or_f, e_or, e_andV_t, e_andV_f, e_andV, e_orV_t, e_orV_f, e_orV, e_notV1, e_notV, e_nil, e_cons2, e_cons1, e_cons, e_tk2, e_tk1, e_tk0, e_tk, e_tup2, e_tup1, e_tup, e_lst2, e_lst1, e_lst, e_da1, e_da0, e_da, e_cb2, e_cb1, e_cb, e_v_d, e_v_o, e_v_b, e_v, e_c, e_h_d, e_h_f, e_h_s, e_h_b, e_at1, e_at, e_lm, e_d_d, e_d_f, e_d_s, e_d_b, e_ts, e_t_d, e_t_f, e_t_s, e_p_d, e_p_l, e_p_t, e_put_d, e_put_f, e_put_b, e_bx1, e_bx, e_ap2, e_ap1, e_ap0, e_apS, e_ap, e_arg2, e_arg1, e_arg0, e_arg_b, e_arg_d, e_arg_s, e_cl3, e_cl2, e_cl1, e_cl, e_rv_d, e_rv_o, e_rv_b, e_df2, e_df_r, e_df_n, e_df, e_om, e_r_d, e_r_f, e_r_s, e_r_b, e_ff_n, e_ff_c, e_ff_b, e_ff_r, e_fg, e_fr1, e_fr, e_nm, e_im, e_it2, e_it1, e_it, e_i_l, e_i_t, e_lc3, e_lc1, e_lc, e_io1, e_io, e_iv2, e_iv_d, e_iv_o, e_iv, e_ch6, e_ch5, e_ch4t, e_ch4f, e_ch3, e_ch2, e_ch1, e_ch, e_so_d, e_so_f, e_pr3, e_pr2, e_pr1, e_pr, e_sl4, e_sl3, e_sl2, e_sl1, e_sl, e_nop, e_pt1, e_pt, o_sl_l, o_sl_t, e_yes, e_wp, e_wp0, e_wp1, e_re0, e_re1, e_kd_d, e_kd_o, e_kd_b, e_kd_n, o_add_i, o_add_s, o_add_l, o_add_t, o_sub, o_mul, o_div, o_mod, o_pow, o_lt_i, o_lt_s, o_le_i, o_le_s, o_gt_i, o_ge_i, o_ix_l, o_ix_t, o_ixK, o_len_l, o_len_t, o_len_s, o_int_i, o_int_b, o_abs, o_max, o_min, o_lst_l, o_lst_t, o_tup_l, o_tup_t, List.map_cons, List.map_nil, List.append_nil, List.nil_append, List.cons_append, List.length_cons, List.length_nil, List.getElem?_cons_zero, List.getElem?_cons_succ, List.set_cons_zero, List.set_cons_succ, if_true, if_false, List.replicate_zero, List.replicate_succ, List.length_set, Bool.not_true, Bool.not_false, decide_true, decide_false, true_and, and_true, Nat.reduceAdd, Nat.reduceLT, Nat.reduceLeDiff, reduceIte, reduceCtorEq, items_lot, key, sz]
  rfl
theorem f_less_is {l1 l2 : List Str} {b : List Int} (h1 : Oks l1) (h2 : Oks l2) (few : Few l1) : f_less [.d (lotD l1), .d (lotD l2)] b = some (.d (lotD (lessL l1 l2)), b) := by
  unfold f_less g_less
  have key := lc_map (vs := [2]) (on := none) (all := strsD l1) (i := 2) (c := dTest (dOp opNi (dV 2) (dV 1))) (f := dV 2) (e := [some (.d (lotD l1)), some (.d (lotD l2)), none]) (b := b) (niB l2) id chk_none (Nat.lt_succ_self 2) (fun x => rfl) (strsD l1) (fun x hx => by
      obtain ⟨z, hz, rfl⟩ := mem_strsD hx
      simp only [e_op4, e_op3, e_op2, e_op1, e_op, e_un2, e_un1, e_un, e_seq_nx, e_seq_rt, e_seq_bk, e_seq_ct, e_seq, e_nx, e_bk, e_ct, e_put, e_set1, e_set, e_drop1, e_drop, e_ret1, e_ret, e_retN, e_if_t, e_if_f, e_ifS, e_ifE, e_test1, e_test, e_not1, e_not, e_and_t, e_and_f, e_and, e_or_t, e_or_f, e_or, e_andV_t, e_andV_f, e_andV, e_orV_t, e_orV_f, e_orV, e_notV1, e_notV, e_nil, e_cons2, e_cons1, e_cons, e_tk2, e_tk1, e_tk0, e_tk, e_tup2, e_tup1, e_tup, e_lst2, e_lst1, e_lst, e_da1, e_da0, e_da, e_cb2, e_cb1, e_cb, e_v_d, e_v_o, e_v_b, e_v, e_c, e_h_d, e_h_f, e_h_s, e_h_b, e_at1, e_at, e_lm, e_d_d, e_d_f, e_d_s, e_d_b, e_ts, e_t_d, e_t_f, e_t_s, e_p_d, e_p_l, e_p_t, e_put_d, e_put_f, e_put_b, e_bx1, e_bx, e_ap2, e_ap1, e_ap0, e_apS, e_ap, e_arg2, e_arg1, e_arg0, e_arg_b, e_arg_d, e_arg_s, e_cl3, e_cl2, e_cl1, e_cl, e_rv_d, e_rv_o, e_rv_b, e_df2, e_df_r, e_df_n, e_df, e_om, e_r_d, e_r_f, e_r_s, e_r_b, e_ff_n, e_ff_c, e_ff_b, e_ff_r, e_fg, e_fr1, e_fr, e_nm, e_im, e_it2, e_it1, e_it, e_i_l, e_i_t, e_lc3, e_lc1, e_lc, e_io1, e_io, e_iv2, e_iv_d, e_iv_o, e_iv, e_ch6, e_ch5, e_ch4t, e_ch4f, e_ch3, e_ch2, e_ch1, e_ch, e_so_d, e_so_f, e_pr3, e_pr2, e_pr1, e_pr, e_sl4, e_sl3, e_sl2, e_sl1, e_sl, e_nop, e_pt1, e_pt, o_sl_l, o_sl_t, e_yes, e_wp, e_wp0, e_wp1, e_re0, e_re1, e_kd_d, e_kd_o, e_kd_b, e_kd_n, o_add_i, o_add_s, o_add_l, o_add_t, o_sub, o_mul, o_div, o_mod, o_pow, o_lt_i, o_lt_s, o_le_i, o_le_s, o_gt_i, o_ge_i, o_ix_l, o_ix_t, o_ixK, o_len_l, o_len_t, o_len_s, o_int_i, o_int_b, o_abs, o_max, o_min, o_lst_l, o_lst_t, o_tup_l, o_tup_t, List.map_cons, List.map_nil, List.append_nil, List.nil_append, List.cons_append, List.length_cons, List.length_nil, List.getElem?_cons_zero, List.getElem?_cons_succ, List.set_cons_zero, List.set_cons_succ, if_true, if_false, List.replicate_zero, List.replicate_succ, List.length_set, Bool.not_true, Bool.not_false, decide_true, decide_false, true_and, and_true, Nat.reduceAdd, Nat.reduceLT, Nat.reduceLeDiff, reduceIte, reduceCtorEq, ni_lot (h1 z hz) h2]
      rfl) fun x hx _ => by
      obtain ⟨z, hz, rfl⟩ := mem_strsD hx
      exact ⟨.d (.str z), rfl, rfl⟩
  rw [List.map_id, filter_strs] at key
  have sz := few_strs (few_filter (p := fun z => niB l2 (.str z)) few)
  simp only [e_op4, e_op3, e_op2, e_op1, e_op, e_un2, e_un1, e_un, e_seq_nx, e_seq_rt, e_seq_bk, e_seq_ct, e_seq, e_nx, e_bk, e_ct, e_put, e_set1, e_set, e_drop1, e_drop, e_ret1, e_ret, e_retN, e_if_t, e_if_f, e_ifS, e_ifE, e_test1, e_test, e_not1, e_not, e_and_t, e_and_f, e_and, e_or_t, e_or_f, e_or, e_andV_t, e_andV_f, e_andV, e_orV_t, e_orV_f, e_orV, e_notV1, e_notV, e_nil, e_cons2, e_cons1, e_cons, e_tk2, e_tk1, e_tk0, e_tk, e_tup2, e_tup1, e_tup, e_lst2, e_lst1, e_lst, e_da1, e_da0, e_da, e_cb2, e_cb1, e_cb, e_v_d, e_v_o, e_v_b, e_v, e_c, e_h_d, e_h_f, e_h_s, e_h_b, e_at1, e_at, e_lm, e_d_d, e_d_f, e_d_s, e_d_b, e_ts, e_t_d, e_t_f, e_t_s, e_p_d, e_p_l, e_p_t, e_put_d, e_put_f, e_put_b, e_bx1, e_bx, e_ap2, e_ap1, e_ap0, e_apS, e_ap, e_arg2, e_arg1, e_arg0, e_arg_b, e_arg_d, e_arg_s, e_cl3, e_cl2, e_cl1, e_cl, e_rv_d, e_rv_o, e_rv_b, e_df2, e_df_r, e_df_n, e_df, e_om, e_r_d, e_r_f, e_r_s, e_r_b, e_ff_n, e_ff_c, e_ff_b, e_ff_r, e_fg, e_fr1, e_fr, e_nm, e_im, e_it2, e_it1, e_it, e_i_l, e_i_t, e_lc3, e_lc1, e_lc, e_io1, e_io, e_iv2, e_iv_d, e_iv_o, e_iv, e_ch6, e_ch5, e_ch4t, e_ch4f, e_ch3, e_ch2, e_ch1, e_ch, e_so_d, e_so_f, e_pr3, e_pr2, e_pr1, e_pr, e_sl4, e_sl3, e_sl2, e_sl1, e_sl, e_nop, e_pt1, e_pt, o_sl_l, o_sl_t, e_yes, e_wp, e_wp0, e_wp1, e_re0, e_re1, e_kd_d, e_kd_o, e_kd_b, e_kd_n, o_add_i, o_add_s, o_add_l, o_add_t, o_sub, o_mul, o_div, o_mod, o_pow, o_lt_i, o_lt_s, o_le_i, o_le_s, o_gt_i, o_ge_i, o_ix_l, o_ix_t, o_ixK, o_len_l, o_len_t, o_len_s, o_int_i, o_int_b, o_abs, o_max, o_min, o_lst_l, o_lst_t, o_tup_l, o_tup_t, List.map_cons, List.map_nil, List.append_nil, List.nil_append, List.cons_append, List.length_cons, List.length_nil, List.getElem?_cons_zero, List.getElem?_cons_succ, List.set_cons_zero, List.set_cons_succ, if_true, if_false, List.replicate_zero, List.replicate_succ, List.length_set, Bool.not_true, Bool.not_false, decide_true, decide_false, true_and, and_true, Nat.reduceAdd, Nat.reduceLT, Nat.reduceLeDiff, reduceIte, reduceCtorEq, items_lot, key, sz]
  rfl
theorem f_united_is {l1 l2 : List Str} {b : List Int} (few : l1.length + l2.length < 64) : f_united [.d (lotD l1), .d (lotD l2)] b = some (.d (lotD (unitedL l1 l2)), b) := by
  unfold f_united g_united dSS
  have e1 : opAdd (lotD l1) (lotD l2) = some (.t (strsD (l1 ++ l2))) := by
    show (if (strsD l1).length + (strsD l2).length ≤ 100000 then some (PV.t (strsD l1 ++ strsD l2)) else none) = _
    rw [if_pos (by
      show (l1.map PyData.str).length + (l2.map PyData.str).length ≤ 100000
      rw [List.length_map, List.length_map]
      omega)]
    show some (PV.t (l1.map PyData.str ++ l2.map PyData.str)) = _
    rw [← List.map_append]
    rfl
  have e2 := ss_strs (l := l1 ++ l2) (by rw [List.length_append]; exact few)
  simp only [e_op4, e_op3, e_op2, e_op1, e_op, e_un2, e_un1, e_un, e_seq_nx, e_seq_rt, e_seq_bk, e_seq_ct, e_seq, e_nx, e_bk, e_ct, e_put, e_set1, e_set, e_drop1, e_drop, e_ret1, e_ret, e_retN, e_if_t, e_if_f, e_ifS, e_ifE, e_test1, e_test, e_not1, e_not, e_and_t, e_and_f, e_and, e_or_t, e_or_f, e_or, e_andV_t, e_andV_f, e_andV, e_orV_t, e_orV_f, e_orV, e_notV1, e_notV, e_nil, e_cons2, e_cons1, e_cons, e_tk2, e_tk1, e_tk0, e_tk, e_tup2, e_tup1, e_tup, e_lst2, e_lst1, e_lst, e_da1, e_da0, e_da, e_cb2, e_cb1, e_cb, e_v_d, e_v_o, e_v_b, e_v, e_c, e_h_d, e_h_f, e_h_s, e_h_b, e_at1, e_at, e_lm, e_d_d, e_d_f, e_d_s, e_d_b, e_ts, e_t_d, e_t_f, e_t_s, e_p_d, e_p_l, e_p_t, e_put_d, e_put_f, e_put_b, e_bx1, e_bx, e_ap2, e_ap1, e_ap0, e_apS, e_ap, e_arg2, e_arg1, e_arg0, e_arg_b, e_arg_d, e_arg_s, e_cl3, e_cl2, e_cl1, e_cl, e_rv_d, e_rv_o, e_rv_b, e_df2, e_df_r, e_df_n, e_df, e_om, e_r_d, e_r_f, e_r_s, e_r_b, e_ff_n, e_ff_c, e_ff_b, e_ff_r, e_fg, e_fr1, e_fr, e_nm, e_im, e_it2, e_it1, e_it, e_i_l, e_i_t, e_lc3, e_lc1, e_lc, e_io1, e_io, e_iv2, e_iv_d, e_iv_o, e_iv, e_ch6, e_ch5, e_ch4t, e_ch4f, e_ch3, e_ch2, e_ch1, e_ch, e_so_d, e_so_f, e_pr3, e_pr2, e_pr1, e_pr, e_sl4, e_sl3, e_sl2, e_sl1, e_sl, e_nop, e_pt1, e_pt, o_sl_l, o_sl_t, e_yes, e_wp, e_wp0, e_wp1, e_re0, e_re1, e_kd_d, e_kd_o, e_kd_b, e_kd_n, o_add_i, o_add_s, o_add_l, o_add_t, o_sub, o_mul, o_div, o_mod, o_pow, o_lt_i, o_lt_s, o_le_i, o_le_s, o_gt_i, o_ge_i, o_ix_l, o_ix_t, o_ixK, o_len_l, o_len_t, o_len_s, o_int_i, o_int_b, o_abs, o_max, o_min, o_lst_l, o_lst_t, o_tup_l, o_tup_t, List.map_cons, List.map_nil, List.append_nil, List.nil_append, List.cons_append, List.length_cons, List.length_nil, List.getElem?_cons_zero, List.getElem?_cons_succ, List.set_cons_zero, List.set_cons_succ, if_true, if_false, List.replicate_zero, List.replicate_succ, List.length_set, Bool.not_true, Bool.not_false, decide_true, decide_false, true_and, and_true, Nat.reduceAdd, Nat.reduceLT, Nat.reduceLeDiff, reduceIte, reduceCtorEq, e1, e2]
  rfl
theorem part_loop {l2 : List Str} {a1 : Option SV} {b : List Int} (h2 : Oks l2) : ∀ (l : List Str) (o : Option SV), Oks l → ∃ o2, forFold (dName 2) (dIfS (dTest (dOp opNi (dV 2) (dV 1))) (dRet (dC (.bool false))) dNx) (strsD l) ⟨[a1, some (.d (lotD l2)), o], b⟩ =
    some (if partL l l2 = true then OutS.nx else .rt (.d (.bool false)), ⟨[a1, some (.d (lotD l2)), o2], b⟩)
  | [], o, _ => ⟨o, rfl⟩
  | z :: l, o, h => by
    have hz := h z (List.mem_cons_self ..)
    show ∃ o2, forFold _ _ (PyData.str z :: strsD l) _ = _
    rw [for_cons]
    have c : 2 < [a1, some (SV.d (lotD l2)), o].length := Nat.lt_succ_self 2
    by_cases hm : z ∈ l2
    · obtain ⟨o2, ih⟩ := part_loop (a1 := a1) (b := b) h2 l (some (.d (.str z))) fun y m => h y (List.mem_cons_of_mem _ m)
      refine ⟨o2, ?_⟩
      simp only [e_op4, e_op3, e_op2, e_op1, e_op, e_un2, e_un1, e_un, e_seq_nx, e_seq_rt, e_seq_bk, e_seq_ct, e_seq, e_nx, e_bk, e_ct, e_put, e_set1, e_set, e_drop1, e_drop, e_ret1, e_ret, e_retN, e_if_t, e_if_f, e_ifS, e_ifE, e_test1, e_test, e_not1, e_not, e_and_t, e_and_f, e_and, e_or_t, e_or_f, e_or, e_andV_t, e_andV_f, e_andV, e_orV_t, e_orV_f, e_orV, e_notV1, e_notV, e_nil, e_cons2, e_cons1, e_cons, e_tk2, e_tk1, e_tk0, e_tk, e_tup2, e_tup1, e_tup, e_lst2, e_lst1, e_lst, e_da1, e_da0, e_da, e_cb2, e_cb1, e_cb, e_v_d, e_v_o, e_v_b, e_v, e_c, e_h_d, e_h_f, e_h_s, e_h_b, e_at1, e_at, e_lm, e_d_d, e_d_f, e_d_s, e_d_b, e_ts, e_t_d, e_t_f, e_t_s, e_p_d, e_p_l, e_p_t, e_put_d, e_put_f, e_put_b, e_bx1, e_bx, e_ap2, e_ap1, e_ap0, e_apS, e_ap, e_arg2, e_arg1, e_arg0, e_arg_b, e_arg_d, e_arg_s, e_cl3, e_cl2, e_cl1, e_cl, e_rv_d, e_rv_o, e_rv_b, e_df2, e_df_r, e_df_n, e_df, e_om, e_r_d, e_r_f, e_r_s, e_r_b, e_ff_n, e_ff_c, e_ff_b, e_ff_r, e_fg, e_fr1, e_fr, e_nm, e_im, e_it2, e_it1, e_it, e_i_l, e_i_t, e_lc3, e_lc1, e_lc, e_io1, e_io, e_iv2, e_iv_d, e_iv_o, e_iv, e_ch6, e_ch5, e_ch4t, e_ch4f, e_ch3, e_ch2, e_ch1, e_ch, e_so_d, e_so_f, e_pr3, e_pr2, e_pr1, e_pr, e_sl4, e_sl3, e_sl2, e_sl1, e_sl, e_nop, e_pt1, e_pt, o_sl_l, o_sl_t, e_yes, e_wp, e_wp0, e_wp1, e_re0, e_re1, e_kd_d, e_kd_o, e_kd_b, e_kd_n, o_add_i, o_add_s, o_add_l, o_add_t, o_sub, o_mul, o_div, o_mod, o_pow, o_lt_i, o_lt_s, o_le_i, o_le_s, o_gt_i, o_ge_i, o_ix_l, o_ix_t, o_ixK, o_len_l, o_len_t, o_len_s, o_int_i, o_int_b, o_abs, o_max, o_min, o_lst_l, o_lst_t, o_tup_l, o_tup_t, List.map_cons, List.map_nil, List.append_nil, List.nil_append, List.cons_append, List.length_cons, List.length_nil, List.getElem?_cons_zero, List.getElem?_cons_succ, List.set_cons_zero, List.set_cons_succ, if_true, if_false, List.replicate_zero, List.replicate_succ, List.length_set, Bool.not_true, Bool.not_false, decide_true, decide_false, true_and, and_true, Nat.reduceAdd, Nat.reduceLT, Nat.reduceLeDiff, reduceIte, reduceCtorEq, c, ni_lot hz h2, hm]
      have e : partL (z :: l) l2 = partL l l2 := by
        unfold partL
        rw [List.all_cons, decide_eq_true hm, Bool.true_and]
      rw [e]
      exact ih
    · refine ⟨some (.d (.str z)), ?_⟩
      simp only [e_op4, e_op3, e_op2, e_op1, e_op, e_un2, e_un1, e_un, e_seq_nx, e_seq_rt, e_seq_bk, e_seq_ct, e_seq, e_nx, e_bk, e_ct, e_put, e_set1, e_set, e_drop1, e_drop, e_ret1, e_ret, e_retN, e_if_t, e_if_f, e_ifS, e_ifE, e_test1, e_test, e_not1, e_not, e_and_t, e_and_f, e_and, e_or_t, e_or_f, e_or, e_andV_t, e_andV_f, e_andV, e_orV_t, e_orV_f, e_orV, e_notV1, e_notV, e_nil, e_cons2, e_cons1, e_cons, e_tk2, e_tk1, e_tk0, e_tk, e_tup2, e_tup1, e_tup, e_lst2, e_lst1, e_lst, e_da1, e_da0, e_da, e_cb2, e_cb1, e_cb, e_v_d, e_v_o, e_v_b, e_v, e_c, e_h_d, e_h_f, e_h_s, e_h_b, e_at1, e_at, e_lm, e_d_d, e_d_f, e_d_s, e_d_b, e_ts, e_t_d, e_t_f, e_t_s, e_p_d, e_p_l, e_p_t, e_put_d, e_put_f, e_put_b, e_bx1, e_bx, e_ap2, e_ap1, e_ap0, e_apS, e_ap, e_arg2, e_arg1, e_arg0, e_arg_b, e_arg_d, e_arg_s, e_cl3, e_cl2, e_cl1, e_cl, e_rv_d, e_rv_o, e_rv_b, e_df2, e_df_r, e_df_n, e_df, e_om, e_r_d, e_r_f, e_r_s, e_r_b, e_ff_n, e_ff_c, e_ff_b, e_ff_r, e_fg, e_fr1, e_fr, e_nm, e_im, e_it2, e_it1, e_it, e_i_l, e_i_t, e_lc3, e_lc1, e_lc, e_io1, e_io, e_iv2, e_iv_d, e_iv_o, e_iv, e_ch6, e_ch5, e_ch4t, e_ch4f, e_ch3, e_ch2, e_ch1, e_ch, e_so_d, e_so_f, e_pr3, e_pr2, e_pr1, e_pr, e_sl4, e_sl3, e_sl2, e_sl1, e_sl, e_nop, e_pt1, e_pt, o_sl_l, o_sl_t, e_yes, e_wp, e_wp0, e_wp1, e_re0, e_re1, e_kd_d, e_kd_o, e_kd_b, e_kd_n, o_add_i, o_add_s, o_add_l, o_add_t, o_sub, o_mul, o_div, o_mod, o_pow, o_lt_i, o_lt_s, o_le_i, o_le_s, o_gt_i, o_ge_i, o_ix_l, o_ix_t, o_ixK, o_len_l, o_len_t, o_len_s, o_int_i, o_int_b, o_abs, o_max, o_min, o_lst_l, o_lst_t, o_tup_l, o_tup_t, List.map_cons, List.map_nil, List.append_nil, List.nil_append, List.cons_append, List.length_cons, List.length_nil, List.getElem?_cons_zero, List.getElem?_cons_succ, List.set_cons_zero, List.set_cons_succ, if_true, if_false, List.replicate_zero, List.replicate_succ, List.length_set, Bool.not_true, Bool.not_false, decide_true, decide_false, true_and, and_true, Nat.reduceAdd, Nat.reduceLT, Nat.reduceLeDiff, reduceIte, reduceCtorEq, c, ni_lot hz h2, hm]
      have e : partL (z :: l) l2 = false := by
        unfold partL
        rw [List.all_cons, decide_eq_false hm, Bool.false_and]
      rw [e]
      rfl
theorem f_is_part_is {l1 l2 : List Str} {b : List Int} (h1 : Oks l1) (h2 : Oks l2) : f_is_part [.d (lotD l1), .d (lotD l2)] b = some (.d (.bool (partL l1 l2)), b) := by
  unfold f_is_part g_is_part
  obtain ⟨o2, e⟩ := part_loop (a1 := some (.d (lotD l1))) (b := b) h2 l1 none h1
  cases hp : partL l1 l2 with
  | true =>
    rw [hp] at e
    simp only [e_op4, e_op3, e_op2, e_op1, e_op, e_un2, e_un1, e_un, e_seq_nx, e_seq_rt, e_seq_bk, e_seq_ct, e_seq, e_nx, e_bk, e_ct, e_put, e_set1, e_set, e_drop1, e_drop, e_ret1, e_ret, e_retN, e_if_t, e_if_f, e_ifS, e_ifE, e_test1, e_test, e_not1, e_not, e_and_t, e_and_f, e_and, e_or_t, e_or_f, e_or, e_andV_t, e_andV_f, e_andV, e_orV_t, e_orV_f, e_orV, e_notV1, e_notV, e_nil, e_cons2, e_cons1, e_cons, e_tk2, e_tk1, e_tk0, e_tk, e_tup2, e_tup1, e_tup, e_lst2, e_lst1, e_lst, e_da1, e_da0, e_da, e_cb2, e_cb1, e_cb, e_v_d, e_v_o, e_v_b, e_v, e_c, e_h_d, e_h_f, e_h_s, e_h_b, e_at1, e_at, e_lm, e_d_d, e_d_f, e_d_s, e_d_b, e_ts, e_t_d, e_t_f, e_t_s, e_p_d, e_p_l, e_p_t, e_put_d, e_put_f, e_put_b, e_bx1, e_bx, e_ap2, e_ap1, e_ap0, e_apS, e_ap, e_arg2, e_arg1, e_arg0, e_arg_b, e_arg_d, e_arg_s, e_cl3, e_cl2, e_cl1, e_cl, e_rv_d, e_rv_o, e_rv_b, e_df2, e_df_r, e_df_n, e_df, e_om, e_r_d, e_r_f, e_r_s, e_r_b, e_ff_n, e_ff_c, e_ff_b, e_ff_r, e_fg, e_fr1, e_fr, e_nm, e_im, e_it2, e_it1, e_it, e_i_l, e_i_t, e_lc3, e_lc1, e_lc, e_io1, e_io, e_iv2, e_iv_d, e_iv_o, e_iv, e_ch6, e_ch5, e_ch4t, e_ch4f, e_ch3, e_ch2, e_ch1, e_ch, e_so_d, e_so_f, e_pr3, e_pr2, e_pr1, e_pr, e_sl4, e_sl3, e_sl2, e_sl1, e_sl, e_nop, e_pt1, e_pt, o_sl_l, o_sl_t, e_yes, e_wp, e_wp0, e_wp1, e_re0, e_re1, e_kd_d, e_kd_o, e_kd_b, e_kd_n, o_add_i, o_add_s, o_add_l, o_add_t, o_sub, o_mul, o_div, o_mod, o_pow, o_lt_i, o_lt_s, o_le_i, o_le_s, o_gt_i, o_ge_i, o_ix_l, o_ix_t, o_ixK, o_len_l, o_len_t, o_len_s, o_int_i, o_int_b, o_abs, o_max, o_min, o_lst_l, o_lst_t, o_tup_l, o_tup_t, List.map_cons, List.map_nil, List.append_nil, List.nil_append, List.cons_append, List.length_cons, List.length_nil, List.getElem?_cons_zero, List.getElem?_cons_succ, List.set_cons_zero, List.set_cons_succ, if_true, if_false, List.replicate_zero, List.replicate_succ, List.length_set, Bool.not_true, Bool.not_false, decide_true, decide_false, true_and, and_true, Nat.reduceAdd, Nat.reduceLT, Nat.reduceLeDiff, reduceIte, reduceCtorEq, items_lot, e]
  | false =>
    rw [hp] at e
    simp only [e_op4, e_op3, e_op2, e_op1, e_op, e_un2, e_un1, e_un, e_seq_nx, e_seq_rt, e_seq_bk, e_seq_ct, e_seq, e_nx, e_bk, e_ct, e_put, e_set1, e_set, e_drop1, e_drop, e_ret1, e_ret, e_retN, e_if_t, e_if_f, e_ifS, e_ifE, e_test1, e_test, e_not1, e_not, e_and_t, e_and_f, e_and, e_or_t, e_or_f, e_or, e_andV_t, e_andV_f, e_andV, e_orV_t, e_orV_f, e_orV, e_notV1, e_notV, e_nil, e_cons2, e_cons1, e_cons, e_tk2, e_tk1, e_tk0, e_tk, e_tup2, e_tup1, e_tup, e_lst2, e_lst1, e_lst, e_da1, e_da0, e_da, e_cb2, e_cb1, e_cb, e_v_d, e_v_o, e_v_b, e_v, e_c, e_h_d, e_h_f, e_h_s, e_h_b, e_at1, e_at, e_lm, e_d_d, e_d_f, e_d_s, e_d_b, e_ts, e_t_d, e_t_f, e_t_s, e_p_d, e_p_l, e_p_t, e_put_d, e_put_f, e_put_b, e_bx1, e_bx, e_ap2, e_ap1, e_ap0, e_apS, e_ap, e_arg2, e_arg1, e_arg0, e_arg_b, e_arg_d, e_arg_s, e_cl3, e_cl2, e_cl1, e_cl, e_rv_d, e_rv_o, e_rv_b, e_df2, e_df_r, e_df_n, e_df, e_om, e_r_d, e_r_f, e_r_s, e_r_b, e_ff_n, e_ff_c, e_ff_b, e_ff_r, e_fg, e_fr1, e_fr, e_nm, e_im, e_it2, e_it1, e_it, e_i_l, e_i_t, e_lc3, e_lc1, e_lc, e_io1, e_io, e_iv2, e_iv_d, e_iv_o, e_iv, e_ch6, e_ch5, e_ch4t, e_ch4f, e_ch3, e_ch2, e_ch1, e_ch, e_so_d, e_so_f, e_pr3, e_pr2, e_pr1, e_pr, e_sl4, e_sl3, e_sl2, e_sl1, e_sl, e_nop, e_pt1, e_pt, o_sl_l, o_sl_t, e_yes, e_wp, e_wp0, e_wp1, e_re0, e_re1, e_kd_d, e_kd_o, e_kd_b, e_kd_n, o_add_i, o_add_s, o_add_l, o_add_t, o_sub, o_mul, o_div, o_mod, o_pow, o_lt_i, o_lt_s, o_le_i, o_le_s, o_gt_i, o_ge_i, o_ix_l, o_ix_t, o_ixK, o_len_l, o_len_t, o_len_s, o_int_i, o_int_b, o_abs, o_max, o_min, o_lst_l, o_lst_t, o_tup_l, o_tup_t, List.map_cons, List.map_nil, List.append_nil, List.nil_append, List.cons_append, List.length_cons, List.length_nil, List.getElem?_cons_zero, List.getElem?_cons_succ, List.set_cons_zero, List.set_cons_succ, if_true, if_false, List.replicate_zero, List.replicate_succ, List.length_set, Bool.not_true, Bool.not_false, decide_true, decide_false, true_and, and_true, Nat.reduceAdd, Nat.reduceLT, Nat.reduceLeDiff, reduceIte, reduceCtorEq, items_lot, e]
end XN

set_option maxRecDepth 100000
set_option maxHeartbeats 4000000
/-! all parts of a lot; all lots between two -/
namespace XN
open PySem PySem.Spec PyProof.Rows L2 Evl

def stepL (ps : List (List Str)) (n : Str) : List (List Str) := ps ++ ps.map fun l => l ++ [n]
def subsF : List Str → List (List Str) → List (List Str)
  | [], ps => ps
  | n :: l, ps => subsF l (stepL ps n)
def subs (l : List Str) : List (List Str) := subsF l [[]]
theorem step_len (ps : List (List Str)) (n : Str) : (stepL ps n).length = ps.length * 2 := by
  unfold stepL
  rw [List.length_append, List.length_map]
  omega
theorem subsF_len : ∀ (l : List Str) (ps : List (List Str)), (subsF l ps).length = ps.length * 2 ^ l.length
  | [], ps => by simp [subsF]
  | n :: l, ps => by
    rw [subsF, subsF_len l, step_len, List.length_cons, Nat.pow_succ, Nat.mul_assoc, Nat.mul_comm 2]
def addB (n : Str) : PyData → PyData
  | .tuple xs => .tuple (xs ++ [.str n])
  | x => x
theorem add_lots (n : Str) (ps : List (List Str)) : (lotsD ps).map (addB n) = lotsD (ps.map fun l => l ++ [n]) := by
  show (ps.map lotD).map (addB n) = (ps.map fun l => l ++ [n]).map lotD
  rw [List.map_map, List.map_map]
  refine List.map_congr_left fun l _ => ?_
  show PyData.tuple (l.map PyData.str ++ [.str n]) = .tuple ((l ++ [n]).map PyData.str)
  rw [List.map_append]
  rfl
theorem filter_yes {α : Type} : ∀ l : List α, l.filter (fun _ => true) = l
  | [] => rfl
  | x :: l => by rw [List.filter_cons, filter_yes l]; rfl
theorem add_name {l : List Str} {n : Str} (h : l.length < 90000) : opAdd (lotD l) (.tuple [.str n]) = some (.t ((l.map PyData.str) ++ [.str n])) := by
  show (if (l.map PyData.str).length + [PyData.str n].length ≤ 100000 then some (PV.t (l.map PyData.str ++ [.str n])) else none) = _
  rw [if_pos (by rw [List.length_map]; show l.length + 1 ≤ 100000; omega)]
noncomputable def partsBody : DS := dSet 1 (dOp opAdd (dV 1) (dLc [3] (dItV [3] 1) (dName 3) dYes (dOp opAdd (dV 3) (dTup (dCons (dV 2) dNil)))))
theorem parts_step {a0 : Option SV} {o3 : Option SV} {ps : List (List Str)} {n : Str} {b : List Int} (few : ps.length ≤ 1000) (short : ∀ l ∈ ps, l.length < 90000) :
    ∃ o4, partsBody ⟨[a0, some (.own (lotsD ps)), some (.d (.str n)), o3], b⟩ = some (.nx, ⟨[a0, some (.own (lotsD (stepL ps n))), some (.d (.str n)), o4], b⟩) := by
  have key := lc_map (vs := [3]) (on := some 1) (all := lotsD ps) (i := 3) (c := dYes) (f := dOp opAdd (dV 3) (dTup (dCons (dV 2) dNil))) (e := [a0, some (.own (lotsD ps)), some (.d (.str n)), none]) (b := b) (fun _ => true) (addB n)
    (fun i h => by cases h; rfl) (Nat.lt_succ_self 3) (fun x => rfl) (lotsD ps) (fun x _ => rfl) fun x hx _ => by
      obtain ⟨l, hl, rfl⟩ := mem_lotsD hx
      refine ⟨.d (addB n (lotD l)), ?_, rfl⟩
      have c : [PyData.str n].length ≤ 100000 := by show 1 ≤ 100000; decide
      simp only [e_op4, e_op3, e_op2, e_op1, e_op, e_un2, e_un1, e_un, e_seq_nx, e_seq_rt, e_seq_bk, e_seq_ct, e_seq, e_nx, e_bk, e_ct, e_put, e_set1, e_set, e_drop1, e_drop, e_ret1, e_ret, e_retN, e_if_t, e_if_f, e_ifS, e_ifE, e_test1, e_test, e_not1, e_not, e_and_t, e_and_f, e_and, e_or_t, e_or_f, e_or, e_andV_t, e_andV_f, e_andV, e_orV_t, e_orV_f, e_orV, e_notV1, e_notV, e_nil, e_cons2, e_cons1, e_cons, e_tk2, e_tk1, e_tk0, e_tk, e_tup2, e_tup1, e_tup, e_lst2, e_lst1, e_lst, e_da1, e_da0, e_da, e_cb2, e_cb1, e_cb, e_v_d, e_v_o, e_v_b, e_v, e_c, e_h_d, e_h_f, e_h_s, e_h_b, e_at1, e_at, e_lm, e_d_d, e_d_f, e_d_s, e_d_b, e_ts, e_t_d, e_t_f, e_t_s, e_p_d, e_p_l, e_p_t, e_put_d, e_put_f, e_put_b, e_bx1, e_bx, e_ap2, e_ap1, e_ap0, e_apS, e_ap, e_arg2, e_arg1, e_arg0, e_arg_b, e_arg_d, e_arg_s, e_cl3, e_cl2, e_cl1, e_cl, e_rv_d, e_rv_o, e_rv_b, e_df2, e_df_r, e_df_n, e_df, e_om, e_r_d, e_r_f, e_r_s, e_r_b, e_ff_n, e_ff_c, e_ff_b, e_ff_r, e_fg, e_fr1, e_fr, e_nm, e_im, e_it2, e_it1, e_it, e_i_l, e_i_t, e_lc3, e_lc1, e_lc, e_io1, e_io, e_iv2, e_iv_d, e_iv_o, e_iv, e_ch6, e_ch5, e_ch4t, e_ch4f, e_ch3, e_ch2, e_ch1, e_ch, e_so_d, e_so_f, e_pr3, e_pr2, e_pr1, e_pr, e_sl4, e_sl3, e_sl2, e_sl1, e_sl, e_nop, e_pt1, e_pt, o_sl_l, o_sl_t, e_yes, e_wp, e_wp0, e_wp1, e_re0, e_re1, e_kd_d, e_kd_o, e_kd_b, e_kd_n, o_add_i, o_add_s, o_add_l, o_add_t, o_sub, o_mul, o_div, o_mod, o_pow, o_lt_i, o_lt_s, o_le_i, o_le_s, o_gt_i, o_ge_i, o_ix_l, o_ix_t, o_ixK, o_len_l, o_len_t, o_len_s, o_int_i, o_int_b, o_abs, o_max, o_min, o_lst_l, o_lst_t, o_tup_l, o_tup_t, List.map_cons, List.map_nil, List.append_nil, List.nil_append, List.cons_append, List.length_cons, List.length_nil, List.getElem?_cons_zero, List.getElem?_cons_succ, List.set_cons_zero, List.set_cons_succ, if_true, if_false, List.replicate_zero, List.replicate_succ, List.length_set, Bool.not_true, Bool.not_false, decide_true, decide_false, true_and, and_true, Nat.reduceAdd, Nat.reduceLT, Nat.reduceLeDiff, reduceIte, reduceCtorEq, c, add_name (short l hl)]
      rfl
  rw [filter_yes, add_lots] at key
  have sz : (lotsD (ps.map fun l => l ++ [n])).length < 100000 := by
    show ((ps.map fun l => l ++ [n]).map lotD).length < 100000
    rw [List.length_map, List.length_map]
    omega
  have ad : opAdd (.list (lotsD ps)) (.list (lotsD (ps.map fun l => l ++ [n]))) = some (.l (lotsD (stepL ps n))) := by
    show (if (ps.map lotD).length + ((ps.map fun l => l ++ [n]).map lotD).length ≤ 100000 then some (PV.l (ps.map lotD ++ (ps.map fun l => l ++ [n]).map lotD)) else none) = _
    rw [if_pos (by rw [List.length_map, List.length_map, List.length_map]; omega), ← List.map_append]
    rfl
  have c1 : ¬ (1 ∈ [3]) := by decide
  refine ⟨keepD (some o3), ?_⟩
  unfold partsBody
  simp only [e_op4, e_op3, e_op2, e_op1, e_op, e_un2, e_un1, e_un, e_seq_nx, e_seq_rt, e_seq_bk, e_seq_ct, e_seq, e_nx, e_bk, e_ct, e_put, e_set1, e_set, e_drop1, e_drop, e_ret1, e_ret, e_retN, e_if_t, e_if_f, e_ifS, e_ifE, e_test1, e_test, e_not1, e_not, e_and_t, e_and_f, e_and, e_or_t, e_or_f, e_or, e_andV_t, e_andV_f, e_andV, e_orV_t, e_orV_f, e_orV, e_notV1, e_notV, e_nil, e_cons2, e_cons1, e_cons, e_tk2, e_tk1, e_tk0, e_tk, e_tup2, e_tup1, e_tup, e_lst2, e_lst1, e_lst, e_da1, e_da0, e_da, e_cb2, e_cb1, e_cb, e_v_d, e_v_o, e_v_b, e_v, e_c, e_h_d, e_h_f, e_h_s, e_h_b, e_at1, e_at, e_lm, e_d_d, e_d_f, e_d_s, e_d_b, e_ts, e_t_d, e_t_f, e_t_s, e_p_d, e_p_l, e_p_t, e_put_d, e_put_f, e_put_b, e_bx1, e_bx, e_ap2, e_ap1, e_ap0, e_apS, e_ap, e_arg2, e_arg1, e_arg0, e_arg_b, e_arg_d, e_arg_s, e_cl3, e_cl2, e_cl1, e_cl, e_rv_d, e_rv_o, e_rv_b, e_df2, e_df_r, e_df_n, e_df, e_om, e_r_d, e_r_f, e_r_s, e_r_b, e_ff_n, e_ff_c, e_ff_b, e_ff_r, e_fg, e_fr1, e_fr, e_nm, e_im, e_it2, e_it1, e_it, e_i_l, e_i_t, e_lc3, e_lc1, e_lc, e_io1, e_io, e_iv2, e_iv_d, e_iv_o, e_iv, e_ch6, e_ch5, e_ch4t, e_ch4f, e_ch3, e_ch2, e_ch1, e_ch, e_so_d, e_so_f, e_pr3, e_pr2, e_pr1, e_pr, e_sl4, e_sl3, e_sl2, e_sl1, e_sl, e_nop, e_pt1, e_pt, o_sl_l, o_sl_t, e_yes, e_wp, e_wp0, e_wp1, e_re0, e_re1, e_kd_d, e_kd_o, e_kd_b, e_kd_n, o_add_i, o_add_s, o_add_l, o_add_t, o_sub, o_mul, o_div, o_mod, o_pow, o_lt_i, o_lt_s, o_le_i, o_le_s, o_gt_i, o_ge_i, o_ix_l, o_ix_t, o_ixK, o_len_l, o_len_t, o_len_s, o_int_i, o_int_b, o_abs, o_max, o_min, o_lst_l, o_lst_t, o_tup_l, o_tup_t, List.map_cons, List.map_nil, List.append_nil, List.nil_append, List.cons_append, List.length_cons, List.length_nil, List.getElem?_cons_zero, List.getElem?_cons_succ, List.set_cons_zero, List.set_cons_succ, if_true, if_false, List.replicate_zero, List.replicate_succ, List.length_set, Bool.not_true, Bool.not_false, decide_true, decide_false, true_and, and_true, Nat.reduceAdd, Nat.reduceLT, Nat.reduceLeDiff, reduceIte, reduceCtorEq, c1, key, sz, ad]
theorem parts_loop {a0 : Option SV} {b : List Int} : ∀ (l : List Str) (ps : List (List Str)) (o2 o3 : Option SV), ps.length * 2 ^ l.length ≤ 1000 → (∀ p ∈ ps, p.length + l.length < 90000) →
    ∃ o4 o5, forFold (dName 2) partsBody (strsD l) ⟨[a0, some (.own (lotsD ps)), o2, o3], b⟩ = some (.nx, ⟨[a0, some (.own (lotsD (subsF l ps))), o4, o5], b⟩)
  | [], ps, o2, o3, _, _ => ⟨o2, o3, rfl⟩
  | n :: l, ps, o2, o3, h, hs => by
    have h2 : ps.length * 2 * 2 ^ l.length ≤ 1000 := by
      rw [List.length_cons, Nat.pow_succ, Nat.mul_comm (2 ^ l.length), ← Nat.mul_assoc] at h
      exact h
    have h1 : ps.length ≤ 1000 := by
      have p : 0 < 2 ^ l.length := Nat.pow_pos (by decide)
      have := Nat.le_trans (Nat.le_mul_of_pos_right (ps.length * 2) p) h2
      omega
    obtain ⟨o6, e1⟩ := parts_step (a0 := a0) (o3 := o3) (n := n) (b := b) h1 fun p hp => by
      have := hs p hp
      omega
    obtain ⟨o4, o5, e2⟩ := parts_loop l (stepL ps n) (some (.d (.str n))) o6 (by rw [step_len]; exact h2) fun p hp => by
      unfold stepL at hp
      rcases List.mem_append.mp hp with hp | hp
      · have := hs p hp
        rw [List.length_cons] at this
        omega
      · obtain ⟨q, hq, rfl⟩ := List.mem_map.mp hp
        have := hs q hq
        rw [List.length_cons] at this
        rw [List.length_append]
        show q.length + 1 + l.length < 90000
        omega
    refine ⟨o4, o5, ?_⟩
    show forFold (dName 2) partsBody (PyData.str n :: strsD l) _ = _
    rw [for_cons]
    have c : 2 < [a0, some (SV.own (lotsD ps)), o2, o3].length := by show 2 < 4; decide
    simp only [e_op4, e_op3, e_op2, e_op1, e_op, e_un2, e_un1, e_un, e_seq_nx, e_seq_rt, e_seq_bk, e_seq_ct, e_seq, e_nx, e_bk, e_ct, e_put, e_set1, e_set, e_drop1, e_drop, e_ret1, e_ret, e_retN, e_if_t, e_if_f, e_ifS, e_ifE, e_test1, e_test, e_not1, e_not, e_and_t, e_and_f, e_and, e_or_t, e_or_f, e_or, e_andV_t, e_andV_f, e_andV, e_orV_t, e_orV_f, e_orV, e_notV1, e_notV, e_nil, e_cons2, e_cons1, e_cons, e_tk2, e_tk1, e_tk0, e_tk, e_tup2, e_tup1, e_tup, e_lst2, e_lst1, e_lst, e_da1, e_da0, e_da, e_cb2, e_cb1, e_cb, e_v_d, e_v_o, e_v_b, e_v, e_c, e_h_d, e_h_f, e_h_s, e_h_b, e_at1, e_at, e_lm, e_d_d, e_d_f, e_d_s, e_d_b, e_ts, e_t_d, e_t_f, e_t_s, e_p_d, e_p_l, e_p_t, e_put_d, e_put_f, e_put_b, e_bx1, e_bx, e_ap2, e_ap1, e_ap0, e_apS, e_ap, e_arg2, e_arg1, e_arg0, e_arg_b, e_arg_d, e_arg_s, e_cl3, e_cl2, e_cl1, e_cl, e_rv_d, e_rv_o, e_rv_b, e_df2, e_df_r, e_df_n, e_df, e_om, e_r_d, e_r_f, e_r_s, e_r_b, e_ff_n, e_ff_c, e_ff_b, e_ff_r, e_fg, e_fr1, e_fr, e_nm, e_im, e_it2, e_it1, e_it, e_i_l, e_i_t, e_lc3, e_lc1, e_lc, e_io1, e_io, e_iv2, e_iv_d, e_iv_o, e_iv, e_ch6, e_ch5, e_ch4t, e_ch4f, e_ch3, e_ch2, e_ch1, e_ch, e_so_d, e_so_f, e_pr3, e_pr2, e_pr1, e_pr, e_sl4, e_sl3, e_sl2, e_sl1, e_sl, e_nop, e_pt1, e_pt, o_sl_l, o_sl_t, e_yes, e_wp, e_wp0, e_wp1, e_re0, e_re1, e_kd_d, e_kd_o, e_kd_b, e_kd_n, o_add_i, o_add_s, o_add_l, o_add_t, o_sub, o_mul, o_div, o_mod, o_pow, o_lt_i, o_lt_s, o_le_i, o_le_s, o_gt_i, o_ge_i, o_ix_l, o_ix_t, o_ixK, o_len_l, o_len_t, o_len_s, o_int_i, o_int_b, o_abs, o_max, o_min, o_lst_l, o_lst_t, o_tup_l, o_tup_t, List.map_cons, List.map_nil, List.append_nil, List.nil_append, List.cons_append, List.length_cons, List.length_nil, List.getElem?_cons_zero, List.getElem?_cons_succ, List.set_cons_zero, List.set_cons_succ, if_true, if_false, List.replicate_zero, List.replicate_succ, List.length_set, Bool.not_true, Bool.not_false, decide_true, decide_false, true_and, and_true, Nat.reduceAdd, Nat.reduceLT, Nat.reduceLeDiff, reduceIte, reduceCtorEq, c, e1]
    exact e2
def partsL (l : List Str) : List (List Str) := sortL (subs l)
theorem subs_few {l : List Str} (h : l.length ≤ 9) : ([[]] : List (List Str)).length * 2 ^ l.length ≤ 1000 := by
  show 1 * 2 ^ l.length ≤ 1000
  rw [Nat.one_mul]
  exact Nat.le_trans (Nat.pow_le_pow_right (by decide) h) (by decide)
theorem f_parts_is {l : List Str} {b : List Int} (h : l.length ≤ 9) : f_parts_of [.d (lotD l)] b = some (.d (.tuple (lotsD (partsL l))), b) := by
  unfold f_parts_of g_parts_of
  obtain ⟨o4, o5, e⟩ := parts_loop (a0 := some (.d (lotD l))) (b := b) l [[]] none none (subs_few h) fun p hp => by
    obtain rfl := List.mem_singleton.mp hp
    show 0 + l.length < 90000
    omega
  have e' : forFold (dName 2) partsBody (strsD l) ⟨[some (.d (lotD l)), some (.own [.tuple []]), none, none], b⟩ = some (.nx, ⟨[some (.d (lotD l)), some (.own (lotsD (subs l))), o4, o5], b⟩) := e
  have c0 : ([] : List PyData).length ≤ 100000 := by show 0 ≤ 100000; decide
  have c1 : [PyData.tuple []].length ≤ 100000 := by show 1 ≤ 100000; decide
  unfold partsBody at e'
  simp only [e_op4, e_op3, e_op2, e_op1, e_op, e_un2, e_un1, e_un, e_seq_nx, e_seq_rt, e_seq_bk, e_seq_ct, e_seq, e_nx, e_bk, e_ct, e_put, e_set1, e_set, e_drop1, e_drop, e_ret1, e_ret, e_retN, e_if_t, e_if_f, e_ifS, e_ifE, e_test1, e_test, e_not1, e_not, e_and_t, e_and_f, e_and, e_or_t, e_or_f, e_or, e_andV_t, e_andV_f, e_andV, e_orV_t, e_orV_f, e_orV, e_notV1, e_notV, e_nil, e_cons2, e_cons1, e_cons, e_tk2, e_tk1, e_tk0, e_tk, e_tup2, e_tup1, e_tup, e_lst2, e_lst1, e_lst, e_da1, e_da0, e_da, e_cb2, e_cb1, e_cb, e_v_d, e_v_o, e_v_b, e_v, e_c, e_h_d, e_h_f, e_h_s, e_h_b, e_at1, e_at, e_lm, e_d_d, e_d_f, e_d_s, e_d_b, e_ts, e_t_d, e_t_f, e_t_s, e_p_d, e_p_l, e_p_t, e_put_d, e_put_f, e_put_b, e_bx1, e_bx, e_ap2, e_ap1, e_ap0, e_apS, e_ap, e_arg2, e_arg1, e_arg0, e_arg_b, e_arg_d, e_arg_s, e_cl3, e_cl2, e_cl1, e_cl, e_rv_d, e_rv_o, e_rv_b, e_df2, e_df_r, e_df_n, e_df, e_om, e_r_d, e_r_f, e_r_s, e_r_b, e_ff_n, e_ff_c, e_ff_b, e_ff_r, e_fg, e_fr1, e_fr, e_nm, e_im, e_it2, e_it1, e_it, e_i_l, e_i_t, e_lc3, e_lc1, e_lc, e_io1, e_io, e_iv2, e_iv_d, e_iv_o, e_iv, e_ch6, e_ch5, e_ch4t, e_ch4f, e_ch3, e_ch2, e_ch1, e_ch, e_so_d, e_so_f, e_pr3, e_pr2, e_pr1, e_pr, e_sl4, e_sl3, e_sl2, e_sl1, e_sl, e_nop, e_pt1, e_pt, o_sl_l, o_sl_t, e_yes, e_wp, e_wp0, e_wp1, e_re0, e_re1, e_kd_d, e_kd_o, e_kd_b, e_kd_n, o_add_i, o_add_s, o_add_l, o_add_t, o_sub, o_mul, o_div, o_mod, o_pow, o_lt_i, o_lt_s, o_le_i, o_le_s, o_gt_i, o_ge_i, o_ix_l, o_ix_t, o_ixK, o_len_l, o_len_t, o_len_s, o_int_i, o_int_b, o_abs, o_max, o_min, o_lst_l, o_lst_t, o_tup_l, o_tup_t, List.map_cons, List.map_nil, List.append_nil, List.nil_append, List.cons_append, List.length_cons, List.length_nil, List.getElem?_cons_zero, List.getElem?_cons_succ, List.set_cons_zero, List.set_cons_succ, if_true, if_false, List.replicate_zero, List.replicate_succ, List.length_set, Bool.not_true, Bool.not_false, decide_true, decide_false, true_and, and_true, Nat.reduceAdd, Nat.reduceLT, Nat.reduceLeDiff, reduceIte, reduceCtorEq, c0, c1, items_lot, e', sort_lots_op]
  rfl
def strsAll : List PyData → List Str
  | [] => []
  | .str z :: xs => z :: strsAll xs
  | _ :: xs => strsAll xs
def strsOf : PyData → List Str
  | .tuple xs => strsAll xs
  | _ => []
theorem strsOf_lot : ∀ l : List Str, strsOf (lotD l) = l
  | [] => rfl
  | z :: l => by
    show z :: strsOf (lotD l) = _
    rw [strsOf_lot l]
theorem oks_subsF : ∀ (l : List Str) (ps : List (List Str)), Oks l → (∀ p ∈ ps, Oks p) → ∀ p ∈ subsF l ps, Oks p
  | [], _, _, h => h
  | n :: l, ps, hl, h => oks_subsF l (stepL ps n) (fun z m => hl z (List.mem_cons_of_mem _ m)) fun p hp => by
    unfold stepL at hp
    rcases List.mem_append.mp hp with hp | hp
    · exact h p hp
    · obtain ⟨q, hq, rfl⟩ := List.mem_map.mp hp
      intro z m
      rcases List.mem_append.mp m with m | m
      · exact h q hq z m
      · rw [List.mem_singleton.mp m]
        exact hl n (List.mem_cons_self ..)
theorem len_subsF : ∀ (l : List Str) (ps : List (List Str)) (k : Nat), (∀ p ∈ ps, p.length ≤ k) → ∀ p ∈ subsF l ps, p.length ≤ k + l.length
  | [], _, _, h => h
  | n :: l, ps, k, h => fun p hp => by
    have := len_subsF l (stepL ps n) (k + 1) (fun p hp => by
      unfold stepL at hp
      rcases List.mem_append.mp hp with hp | hp
      · exact Nat.le_succ_of_le (h p hp)
      · obtain ⟨q, hq, rfl⟩ := List.mem_map.mp hp
        rw [List.length_append]
        exact Nat.succ_le_succ (h q hq)) p hp
    rw [List.length_cons]
    omega
theorem parts_oks {l p : List Str} (h : Oks l) (hp : p ∈ partsL l) : Oks p := oks_subsF l [[]] h (fun q hq => by
  rw [List.mem_singleton.mp hq]
  exact fun z m => absurd m (by simp)) p ((sortL_perm _).mem_iff.mp hp)
theorem parts_len {l p : List Str} (hp : p ∈ partsL l) : p.length ≤ l.length := by
  have := len_subsF l [[]] 0 (fun q hq => by rw [List.mem_singleton.mp hq]; exact Nat.le_refl 0) p ((sortL_perm _).mem_iff.mp hp)
  omega
theorem parts_count (l : List Str) : (partsL l).length = 2 ^ l.length := by
  unfold partsL subs
  rw [(sortL_perm _).length_eq, subsF_len]
  show 1 * _ = _
  rw [Nat.one_mul]
def betweenL (lo hi : List Str) : List (List Str) := if partL lo hi = true then sortL ((partsL (lessL hi lo)).map (unitedL lo)) else []
theorem f_between_is {lo hi : List Str} {b : List Int} (h1 : Oks lo) (h2 : Oks hi) (s1 : lo.length ≤ 9) (s2 : hi.length ≤ 9) : f_lots_between [.d (lotD lo), .d (lotD hi)] b = some (.d (.tuple (lotsD (betweenL lo hi))), b) := by
  unfold f_lots_between g_lots_between
  have few : Few hi := Nat.lt_of_le_of_lt s2 (by decide)
  have e1 : f_is_part [.d (lotD lo), .d (lotD hi)] b = _ := f_is_part_is h1 h2
  cases hp : partL lo hi with
  | false =>
    rw [hp] at e1
    have c0 : ([] : List PyData).length ≤ 100000 := by show 0 ≤ 100000; decide
    simp only [e_op4, e_op3, e_op2, e_op1, e_op, e_un2, e_un1, e_un, e_seq_nx, e_seq_rt, e_seq_bk, e_seq_ct, e_seq, e_nx, e_bk, e_ct, e_put, e_set1, e_set, e_drop1, e_drop, e_ret1, e_ret, e_retN, e_if_t, e_if_f, e_ifS, e_ifE, e_test1, e_test, e_not1, e_not, e_and_t, e_and_f, e_and, e_or_t, e_or_f, e_or, e_andV_t, e_andV_f, e_andV, e_orV_t, e_orV_f, e_orV, e_notV1, e_notV, e_nil, e_cons2, e_cons1, e_cons, e_tk2, e_tk1, e_tk0, e_tk, e_tup2, e_tup1, e_tup, e_lst2, e_lst1, e_lst, e_da1, e_da0, e_da, e_cb2, e_cb1, e_cb, e_v_d, e_v_o, e_v_b, e_v, e_c, e_h_d, e_h_f, e_h_s, e_h_b, e_at1, e_at, e_lm, e_d_d, e_d_f, e_d_s, e_d_b, e_ts, e_t_d, e_t_f, e_t_s, e_p_d, e_p_l, e_p_t, e_put_d, e_put_f, e_put_b, e_bx1, e_bx, e_ap2, e_ap1, e_ap0, e_apS, e_ap, e_arg2, e_arg1, e_arg0, e_arg_b, e_arg_d, e_arg_s, e_cl3, e_cl2, e_cl1, e_cl, e_rv_d, e_rv_o, e_rv_b, e_df2, e_df_r, e_df_n, e_df, e_om, e_r_d, e_r_f, e_r_s, e_r_b, e_ff_n, e_ff_c, e_ff_b, e_ff_r, e_fg, e_fr1, e_fr, e_nm, e_im, e_it2, e_it1, e_it, e_i_l, e_i_t, e_lc3, e_lc1, e_lc, e_io1, e_io, e_iv2, e_iv_d, e_iv_o, e_iv, e_ch6, e_ch5, e_ch4t, e_ch4f, e_ch3, e_ch2, e_ch1, e_ch, e_so_d, e_so_f, e_pr3, e_pr2, e_pr1, e_pr, e_sl4, e_sl3, e_sl2, e_sl1, e_sl, e_nop, e_pt1, e_pt, o_sl_l, o_sl_t, e_yes, e_wp, e_wp0, e_wp1, e_re0, e_re1, e_kd_d, e_kd_o, e_kd_b, e_kd_n, o_add_i, o_add_s, o_add_l, o_add_t, o_sub, o_mul, o_div, o_mod, o_pow, o_lt_i, o_lt_s, o_le_i, o_le_s, o_gt_i, o_ge_i, o_ix_l, o_ix_t, o_ixK, o_len_l, o_len_t, o_len_s, o_int_i, o_int_b, o_abs, o_max, o_min, o_lst_l, o_lst_t, o_tup_l, o_tup_t, List.map_cons, List.map_nil, List.append_nil, List.nil_append, List.cons_append, List.length_cons, List.length_nil, List.getElem?_cons_zero, List.getElem?_cons_succ, List.set_cons_zero, List.set_cons_succ, if_true, if_false, List.replicate_zero, List.replicate_succ, List.length_set, Bool.not_true, Bool.not_false, decide_true, decide_false, true_and, and_true, Nat.reduceAdd, Nat.reduceLT, Nat.reduceLeDiff, reduceIte, reduceCtorEq, e1, c0]
    unfold betweenL
    rw [hp, if_neg (by decide)]
    rfl
  | true =>
    rw [hp] at e1
    have e2 : f_less [.d (lotD hi), .d (lotD lo)] b = _ := f_less_is h2 h1 few
    have sl : (lessL hi lo).length ≤ 9 := Nat.le_trans (List.length_filter_le _ _) s2
    have e3 : f_parts_of [.d (lotD (lessL hi lo))] b = _ := f_parts_is sl
    have key := lc_map (vs := [2]) (on := none) (all := lotsD (partsL (lessL hi lo))) (i := 2) (c := dYes) (f := dCall f_united (dCons (dV 0) (dCons (dV 2) dNil))) (e := [some (.d (lotD lo)), some (.d (lotD hi)), none]) (b := b) (fun _ => true) (fun x => lotD (unitedL lo (strsOf x))) chk_none (Nat.lt_succ_self 2) (fun x => rfl)
      (lotsD (partsL (lessL hi lo))) (fun x _ => rfl) fun x hx _ => by
        obtain ⟨p, hq, rfl⟩ := mem_lotsD hx
        have lp := parts_len hq
        have e4 : f_united [.d (lotD lo), .d (lotD p)] b = _ := f_united_is (by omega)
        refine ⟨.d (lotD (unitedL lo p)), ?_, ?_⟩
        · simp only [e_op4, e_op3, e_op2, e_op1, e_op, e_un2, e_un1, e_un, e_seq_nx, e_seq_rt, e_seq_bk, e_seq_ct, e_seq, e_nx, e_bk, e_ct, e_put, e_set1, e_set, e_drop1, e_drop, e_ret1, e_ret, e_retN, e_if_t, e_if_f, e_ifS, e_ifE, e_test1, e_test, e_not1, e_not, e_and_t, e_and_f, e_and, e_or_t, e_or_f, e_or, e_andV_t, e_andV_f, e_andV, e_orV_t, e_orV_f, e_orV, e_notV1, e_notV, e_nil, e_cons2, e_cons1, e_cons, e_tk2, e_tk1, e_tk0, e_tk, e_tup2, e_tup1, e_tup, e_lst2, e_lst1, e_lst, e_da1, e_da0, e_da, e_cb2, e_cb1, e_cb, e_v_d, e_v_o, e_v_b, e_v, e_c, e_h_d, e_h_f, e_h_s, e_h_b, e_at1, e_at, e_lm, e_d_d, e_d_f, e_d_s, e_d_b, e_ts, e_t_d, e_t_f, e_t_s, e_p_d, e_p_l, e_p_t, e_put_d, e_put_f, e_put_b, e_bx1, e_bx, e_ap2, e_ap1, e_ap0, e_apS, e_ap, e_arg2, e_arg1, e_arg0, e_arg_b, e_arg_d, e_arg_s, e_cl3, e_cl2, e_cl1, e_cl, e_rv_d, e_rv_o, e_rv_b, e_df2, e_df_r, e_df_n, e_df, e_om, e_r_d, e_r_f, e_r_s, e_r_b, e_ff_n, e_ff_c, e_ff_b, e_ff_r, e_fg, e_fr1, e_fr, e_nm, e_im, e_it2, e_it1, e_it, e_i_l, e_i_t, e_lc3, e_lc1, e_lc, e_io1, e_io, e_iv2, e_iv_d, e_iv_o, e_iv, e_ch6, e_ch5, e_ch4t, e_ch4f, e_ch3, e_ch2, e_ch1, e_ch, e_so_d, e_so_f, e_pr3, e_pr2, e_pr1, e_pr, e_sl4, e_sl3, e_sl2, e_sl1, e_sl, e_nop, e_pt1, e_pt, o_sl_l, o_sl_t, e_yes, e_wp, e_wp0, e_wp1, e_re0, e_re1, e_kd_d, e_kd_o, e_kd_b, e_kd_n, o_add_i, o_add_s, o_add_l, o_add_t, o_sub, o_mul, o_div, o_mod, o_pow, o_lt_i, o_lt_s, o_le_i, o_le_s, o_gt_i, o_ge_i, o_ix_l, o_ix_t, o_ixK, o_len_l, o_len_t, o_len_s, o_int_i, o_int_b, o_abs, o_max, o_min, o_lst_l, o_lst_t, o_tup_l, o_tup_t, List.map_cons, List.map_nil, List.append_nil, List.nil_append, List.cons_append, List.length_cons, List.length_nil, List.getElem?_cons_zero, List.getElem?_cons_succ, List.set_cons_zero, List.set_cons_succ, if_true, if_false, List.replicate_zero, List.replicate_succ, List.length_set, Bool.not_true, Bool.not_false, decide_true, decide_false, true_and, and_true, Nat.reduceAdd, Nat.reduceLT, Nat.reduceLeDiff, reduceIte, reduceCtorEq, e4]
        · rw [strsOf_lot]
          rfl
    have em : (lotsD (partsL (lessL hi lo))).map (fun x => lotD (unitedL lo (strsOf x))) = lotsD ((partsL (lessL hi lo)).map (unitedL lo)) := by
      show ((partsL (lessL hi lo)).map lotD).map _ = ((partsL (lessL hi lo)).map (unitedL lo)).map lotD
      rw [List.map_map, List.map_map]
      refine List.map_congr_left fun p _ => ?_
      show lotD (unitedL lo (strsOf (lotD p))) = lotD (unitedL lo p)
      rw [strsOf_lot]
    rw [filter_yes, em] at key
    have sz : (lotsD ((partsL (lessL hi lo)).map (unitedL lo))).length < 100000 := by
      show (((partsL (lessL hi lo)).map (unitedL lo)).map lotD).length < 100000
      rw [List.length_map, List.length_map, parts_count]
      exact Nat.lt_of_le_of_lt (Nat.pow_le_pow_right (by decide) sl) (by decide)
    simp only [e_op4, e_op3, e_op2, e_op1, e_op, e_un2, e_un1, e_un, e_seq_nx, e_seq_rt, e_seq_bk, e_seq_ct, e_seq, e_nx, e_bk, e_ct, e_put, e_set1, e_set, e_drop1, e_drop, e_ret1, e_ret, e_retN, e_if_t, e_if_f, e_ifS, e_ifE, e_test1, e_test, e_not1, e_not, e_and_t, e_and_f, e_and, e_or_t, e_or_f, e_or, e_andV_t, e_andV_f, e_andV, e_orV_t, e_orV_f, e_orV, e_notV1, e_notV, e_nil, e_cons2, e_cons1, e_cons, e_tk2, e_tk1, e_tk0, e_tk, e_tup2, e_tup1, e_tup, e_lst2, e_lst1, e_lst, e_da1, e_da0, e_da, e_cb2, e_cb1, e_cb, e_v_d, e_v_o, e_v_b, e_v, e_c, e_h_d, e_h_f, e_h_s, e_h_b, e_at1, e_at, e_lm, e_d_d, e_d_f, e_d_s, e_d_b, e_ts, e_t_d, e_t_f, e_t_s, e_p_d, e_p_l, e_p_t, e_put_d, e_put_f, e_put_b, e_bx1, e_bx, e_ap2, e_ap1, e_ap0, e_apS, e_ap, e_arg2, e_arg1, e_arg0, e_arg_b, e_arg_d, e_arg_s, e_cl3, e_cl2, e_cl1, e_cl, e_rv_d, e_rv_o, e_rv_b, e_df2, e_df_r, e_df_n, e_df, e_om, e_r_d, e_r_f, e_r_s, e_r_b, e_ff_n, e_ff_c, e_ff_b, e_ff_r, e_fg, e_fr1, e_fr, e_nm, e_im, e_it2, e_it1, e_it, e_i_l, e_i_t, e_lc3, e_lc1, e_lc, e_io1, e_io, e_iv2, e_iv_d, e_iv_o, e_iv, e_ch6, e_ch5, e_ch4t, e_ch4f, e_ch3, e_ch2, e_ch1, e_ch, e_so_d, e_so_f, e_pr3, e_pr2, e_pr1, e_pr, e_sl4, e_sl3, e_sl2, e_sl1, e_sl, e_nop, e_pt1, e_pt, o_sl_l, o_sl_t, e_yes, e_wp, e_wp0, e_wp1, e_re0, e_re1, e_kd_d, e_kd_o, e_kd_b, e_kd_n, o_add_i, o_add_s, o_add_l, o_add_t, o_sub, o_mul, o_div, o_mod, o_pow, o_lt_i, o_lt_s, o_le_i, o_le_s, o_gt_i, o_ge_i, o_ix_l, o_ix_t, o_ixK, o_len_l, o_len_t, o_len_s, o_int_i, o_int_b, o_abs, o_max, o_min, o_lst_l, o_lst_t, o_tup_l, o_tup_t, List.map_cons, List.map_nil, List.append_nil, List.nil_append, List.cons_append, List.length_cons, List.length_nil, List.getElem?_cons_zero, List.getElem?_cons_succ, List.set_cons_zero, List.set_cons_succ, if_true, if_false, List.replicate_zero, List.replicate_succ, List.length_set, Bool.not_true, Bool.not_false, decide_true, decide_false, true_and, and_true, Nat.reduceAdd, Nat.reduceLT, Nat.reduceLeDiff, reduceIte, reduceCtorEq, e1, e2, e3, key, sz, sort_lots_op]
    unfold betweenL
    rw [hp, if_pos rfl]
end XN

set_option maxRecDepth 100000
set_option maxHeartbeats 4000000
/-! the least and the greatest lots of a row -/
namespace XN
open PySem PySem.Spec PyProof.Rows PySem.W L2 Evl XD

theorem tksOf_lots : ∀ ls : List (List Str), tksOf (lotsD ls) = some (ls.map fun l => l.map Sum.inr)
  | [] => rfl
  | l :: ls => by
    show (tkOf (lotD l)).bind (fun k => (tksOf (lotsD ls)).map fun ks => k :: ks) = _
    rw [tksOf_lots ls, show tkOf (lotD l) = some (l.map Sum.inr) from keysOf_strs l]
    rfl
theorem inr_inj {a b : List Str} (h : a.map (Sum.inr : Str → Key) = b.map Sum.inr) : a = b := (List.map_inj_right (fun a b h => Sum.inr.inj h)).mp h
theorem ss_lotsX {x : PyData} {ls : List (List Str)} (hx : x = .list (lotsD ls) ∨ x = .tuple (lotsD ls)) (few : ls.length < 64) : opSS x = some (.l (lotsD (sortL (undup ls)))) := by
  have hl : (lotsD ls).length < 64 := by
    show (ls.map lotD).length < 64
    rw [List.length_map]
    exact few
  have e0 : opSS x = opSS (.list (lotsD ls)) := by
    rcases hx with rfl | rfl <;> rfl
  rw [e0]
  unfold opSS
  show ((some (lotsD ls)).bind _) = _
  rw [Option.bind_some, if_pos ⟨hl, srtbl_lots ls⟩]
  cases ls with
  | nil =>
    show some (PV.l (XC.srt (lotsD []))) = _
    rw [srt_lots]
    rfl
  | cons l ls =>
    have e : keysOf (lotsD (l :: ls)) = none := rfl
    rw [e, tksOf_lots]
    show some (PV.l (XC.srt ((undup ((l :: ls).map fun l => l.map Sum.inr)).map tD))) = _
    rw [undup_map (f := fun l : List Str => l.map (Sum.inr : Str → Key)) fun a b h => inr_inj h, List.map_map]
    have e2 : (undup (l :: ls)).map (tD ∘ fun l : List Str => l.map (Sum.inr : Str → Key)) = lotsD (undup (l :: ls)) := List.map_congr_left fun m _ => by
      show PyData.tuple ((m.map Sum.inr).map kD) = .tuple (m.map PyData.str)
      rw [List.map_map]
      rfl
    rw [e2, srt_lots]
theorem ss_lots_l {ls : List (List Str)} (few : ls.length < 64) : opSS (.list (lotsD ls)) = some (.l (lotsD (sortL (undup ls)))) := ss_lotsX (.inl rfl) few
theorem ss_lots_t {ls : List (List Str)} (few : ls.length < 64) : opSS (.tuple (lotsD ls)) = some (.l (lotsD (sortL (undup ls)))) := ss_lotsX (.inr rfl) few
def lenLe (rev : Bool) (a b : List Str) : Bool := dataLe rev lenK (lotD a) (lotD b)
def sortLen (rev : Bool) (ls : List (List Str)) : List (List Str) := ls.mergeSort (lenLe rev)
theorem sortLen_op (rev : Bool) {ls : List (List Str)} (few : ls.length < 1000) : opSortLen rev (.list (lotsD ls)) = some (.l (lotsD (sortLen rev ls))) := by
  show (if (ls.map lotD).length ≤ 100000 ∧ (ls.map lotD).all (fun x => (lenOf x).isSome) = true then some (PV.l ((ls.map lotD).mergeSort (dataLe rev lenK))) else none) = _
  rw [if_pos ⟨by rw [List.length_map]; omega, by
    rw [List.all_map]
    exact List.all_eq_true.mpr fun l _ => rfl⟩]
  have := sort_maps (r := lenLe rev) (s := dataLe rev lenK) lotD (l := ls) fun _ _ _ _ => rfl
  rw [← this]
  rfl
theorem boolsOf_map {α : Type} (f : α → Bool) : ∀ l : List α, boolsOf (l.map fun x => PyData.bool (f x)) = some (l.map f)
  | [] => rfl
  | x :: l => by
    show (boolsOf (l.map fun x => PyData.bool (f x))).map _ = _
    rw [boolsOf_map f l]
    rfl
def greedy (rel : List Str → List Str → Bool) : List (List Str) → List (List Str) → List (List Str)
  | [], acc => acc
  | l :: ls, acc => greedy rel ls (if acc.any (fun k => rel k l) then acc else acc ++ [l])
/-- the loop of both: the test is a call of is_part on slots 4 and 3, in one order or the other -/
theorem greedy_loop {rel : List Str → List Str → Bool} {call : DF} {a0 a1 : Option SV} {b : List Int}
    (hc : ∀ (k l : List Str) (o2 : Option SV), Oks k → Oks l → call ⟨[a0, a1, o2, some (.d (lotD l)), some (.d (lotD k))], b⟩ = some (.d (.bool (rel k l)), ⟨[a0, a1, o2, some (.d (lotD l)), some (.d (lotD k))], b⟩)) :
    ∀ (ls acc : List (List Str)) (o3 o4 : Option SV), (∀ l ∈ ls, Oks l) → (∀ l ∈ acc, Oks l) → acc.length + ls.length < 1000 →
      ∃ o5 o6, forFold (dName 3) (dIfS (dNot (dTest (dCB opAny (dCons (dLc [4] (dItV [4] 2) (dName 4) dYes call) dNil)))) (dApp 2 (dV 3)) dNx) (lotsD ls) ⟨[a0, a1, some (.own (lotsD acc)), o3, o4], b⟩ =
        some (.nx, ⟨[a0, a1, some (.own (lotsD (greedy rel ls acc))), o5, o6], b⟩)
  | [], acc, o3, o4, _, _, _ => ⟨o3, o4, rfl⟩
  | l :: ls, acc, o3, o4, hl, ha, few => by
    rw [List.length_cons] at few
    have ol := hl l (List.mem_cons_self ..)
    have key := lc_map (vs := [4]) (on := some 2) (all := lotsD acc) (i := 4) (c := dYes) (f := call) (e := [a0, a1, some (.own (lotsD acc)), some (.d (lotD l)), none]) (b := b) (fun _ => true) (fun x => .bool (rel (strsOf x) l)) (fun i h => by cases h; rfl) (Nat.lt_succ_self 4) (fun x => rfl)
      (lotsD acc) (fun x _ => rfl) fun x hx _ => by
        obtain ⟨k, hk, rfl⟩ := mem_lotsD hx
        refine ⟨.d (.bool (rel k l)), hc k l _ (ha k hk) ol, ?_⟩
        rw [strsOf_lot]
        rfl
    have em : (lotsD acc).map (fun x => PyData.bool (rel (strsOf x) l)) = acc.map fun k => PyData.bool (rel k l) := by
      show (acc.map lotD).map _ = _
      rw [List.map_map]
      refine List.map_congr_left fun p _ => ?_
      show PyData.bool (rel (strsOf (lotD p)) l) = _
      rw [strsOf_lot]
    rw [filter_yes, em] at key
    have sz : (acc.map fun k => PyData.bool (rel k l)).length < 100000 := by
      rw [List.length_map]
      omega
    have an : opAny [.list (acc.map fun k => PyData.bool (rel k l))] = some (.d (.bool (acc.any fun k => rel k l))) := by
      show (boolsOf (acc.map fun k => PyData.bool (rel k l))).map _ = _
      rw [boolsOf_map]
      show some (PV.d (.bool ((acc.map fun k => rel k l).any id))) = _
      rw [List.any_map]
      rfl
    have c3 : 3 < [a0, a1, some (SV.own (lotsD acc)), o3, o4].length := by show 3 < 5; decide
    have c2 : ¬ (2 ∈ [4]) := by decide
    have sa : (lotsD acc).length < 100000 := by
      show (acc.map lotD).length < 100000
      rw [List.length_map]
      omega
    show ∃ o5 o6, forFold _ _ (lotD l :: lotsD ls) _ = _
    rw [for_cons]
    cases hb : acc.any fun k => rel k l with
    | true =>
      rw [hb] at an
      obtain ⟨o5, o6, ih⟩ := greedy_loop (rel := rel) hc ls acc (some (.d (lotD l))) (keepD (some o4)) (fun m h => hl m (List.mem_cons_of_mem _ h)) ha (by omega)
      refine ⟨o5, o6, ?_⟩
      simp only [e_op4, e_op3, e_op2, e_op1, e_op, e_un2, e_un1, e_un, e_seq_nx, e_seq_rt, e_seq_bk, e_seq_ct, e_seq, e_nx, e_bk, e_ct, e_put, e_set1, e_set, e_drop1, e_drop, e_ret1, e_ret, e_retN, e_if_t, e_if_f, e_ifS, e_ifE, e_test1, e_test, e_not1, e_not, e_and_t, e_and_f, e_and, e_or_t, e_or_f, e_or, e_andV_t, e_andV_f, e_andV, e_orV_t, e_orV_f, e_orV, e_notV1, e_notV, e_nil, e_cons2, e_cons1, e_cons, e_tk2, e_tk1, e_tk0, e_tk, e_tup2, e_tup1, e_tup, e_lst2, e_lst1, e_lst, e_da1, e_da0, e_da, e_cb2, e_cb1, e_cb, e_v_d, e_v_o, e_v_b, e_v, e_c, e_h_d, e_h_f, e_h_s, e_h_b, e_at1, e_at, e_lm, e_d_d, e_d_f, e_d_s, e_d_b, e_ts, e_t_d, e_t_f, e_t_s, e_p_d, e_p_l, e_p_t, e_put_d, e_put_f, e_put_b, e_bx1, e_bx, e_ap2, e_ap1, e_ap0, e_apS, e_ap, e_arg2, e_arg1, e_arg0, e_arg_b, e_arg_d, e_arg_s, e_cl3, e_cl2, e_cl1, e_cl, e_rv_d, e_rv_o, e_rv_b, e_df2, e_df_r, e_df_n, e_df, e_om, e_r_d, e_r_f, e_r_s, e_r_b, e_ff_n, e_ff_c, e_ff_b, e_ff_r, e_fg, e_fr1, e_fr, e_nm, e_im, e_it2, e_it1, e_it, e_i_l, e_i_t, e_lc3, e_lc1, e_lc, e_io1, e_io, e_iv2, e_iv_d, e_iv_o, e_iv, e_ch6, e_ch5, e_ch4t, e_ch4f, e_ch3, e_ch2, e_ch1, e_ch, e_so_d, e_so_f, e_pr3, e_pr2, e_pr1, e_pr, e_sl4, e_sl3, e_sl2, e_sl1, e_sl, e_nop, e_pt1, e_pt, o_sl_l, o_sl_t, e_yes, e_wp, e_wp0, e_wp1, e_re0, e_re1, e_kd_d, e_kd_o, e_kd_b, e_kd_n, o_add_i, o_add_s, o_add_l, o_add_t, o_sub, o_mul, o_div, o_mod, o_pow, o_lt_i, o_lt_s, o_le_i, o_le_s, o_gt_i, o_ge_i, o_ix_l, o_ix_t, o_ixK, o_len_l, o_len_t, o_len_s, o_int_i, o_int_b, o_abs, o_max, o_min, o_lst_l, o_lst_t, o_tup_l, o_tup_t, List.map_cons, List.map_nil, List.append_nil, List.nil_append, List.cons_append, List.length_cons, List.length_nil, List.getElem?_cons_zero, List.getElem?_cons_succ, List.set_cons_zero, List.set_cons_succ, if_true, if_false, List.replicate_zero, List.replicate_succ, List.length_set, Bool.not_true, Bool.not_false, decide_true, decide_false, true_and, and_true, Nat.reduceAdd, Nat.reduceLT, Nat.reduceLeDiff, reduceIte, reduceCtorEq, c3, c2, key, sz, an]
      unfold greedy
      rw [hb, if_pos rfl]
      exact ih
    | false =>
      rw [hb] at an
      obtain ⟨o5, o6, ih⟩ := greedy_loop (rel := rel) hc ls (acc ++ [l]) (some (.d (lotD l))) (keepD (some o4)) (fun m h => hl m (List.mem_cons_of_mem _ h)) (fun m h => by
        rcases List.mem_append.mp h with h | h
        · exact ha m h
        · rw [List.mem_singleton.mp h]; exact ol) (by rw [List.length_append]; show acc.length + 1 + ls.length < 1000; omega)
      refine ⟨o5, o6, ?_⟩
      simp only [e_op4, e_op3, e_op2, e_op1, e_op, e_un2, e_un1, e_un, e_seq_nx, e_seq_rt, e_seq_bk, e_seq_ct, e_seq, e_nx, e_bk, e_ct, e_put, e_set1, e_set, e_drop1, e_drop, e_ret1, e_ret, e_retN, e_if_t, e_if_f, e_ifS, e_ifE, e_test1, e_test, e_not1, e_not, e_and_t, e_and_f, e_and, e_or_t, e_or_f, e_or, e_andV_t, e_andV_f, e_andV, e_orV_t, e_orV_f, e_orV, e_notV1, e_notV, e_nil, e_cons2, e_cons1, e_cons, e_tk2, e_tk1, e_tk0, e_tk, e_tup2, e_tup1, e_tup, e_lst2, e_lst1, e_lst, e_da1, e_da0, e_da, e_cb2, e_cb1, e_cb, e_v_d, e_v_o, e_v_b, e_v, e_c, e_h_d, e_h_f, e_h_s, e_h_b, e_at1, e_at, e_lm, e_d_d, e_d_f, e_d_s, e_d_b, e_ts, e_t_d, e_t_f, e_t_s, e_p_d, e_p_l, e_p_t, e_put_d, e_put_f, e_put_b, e_bx1, e_bx, e_ap2, e_ap1, e_ap0, e_apS, e_ap, e_arg2, e_arg1, e_arg0, e_arg_b, e_arg_d, e_arg_s, e_cl3, e_cl2, e_cl1, e_cl, e_rv_d, e_rv_o, e_rv_b, e_df2, e_df_r, e_df_n, e_df, e_om, e_r_d, e_r_f, e_r_s, e_r_b, e_ff_n, e_ff_c, e_ff_b, e_ff_r, e_fg, e_fr1, e_fr, e_nm, e_im, e_it2, e_it1, e_it, e_i_l, e_i_t, e_lc3, e_lc1, e_lc, e_io1, e_io, e_iv2, e_iv_d, e_iv_o, e_iv, e_ch6, e_ch5, e_ch4t, e_ch4f, e_ch3, e_ch2, e_ch1, e_ch, e_so_d, e_so_f, e_pr3, e_pr2, e_pr1, e_pr, e_sl4, e_sl3, e_sl2, e_sl1, e_sl, e_nop, e_pt1, e_pt, o_sl_l, o_sl_t, e_yes, e_wp, e_wp0, e_wp1, e_re0, e_re1, e_kd_d, e_kd_o, e_kd_b, e_kd_n, o_add_i, o_add_s, o_add_l, o_add_t, o_sub, o_mul, o_div, o_mod, o_pow, o_lt_i, o_lt_s, o_le_i, o_le_s, o_gt_i, o_ge_i, o_ix_l, o_ix_t, o_ixK, o_len_l, o_len_t, o_len_s, o_int_i, o_int_b, o_abs, o_max, o_min, o_lst_l, o_lst_t, o_tup_l, o_tup_t, List.map_cons, List.map_nil, List.append_nil, List.nil_append, List.cons_append, List.length_cons, List.length_nil, List.getElem?_cons_zero, List.getElem?_cons_succ, List.set_cons_zero, List.set_cons_succ, if_true, if_false, List.replicate_zero, List.replicate_succ, List.length_set, Bool.not_true, Bool.not_false, decide_true, decide_false, true_and, and_true, Nat.reduceAdd, Nat.reduceLT, Nat.reduceLeDiff, reduceIte, reduceCtorEq, c3, c2, key, sz, an, sa]
      unfold greedy
      rw [hb, if_neg (by decide)]
      have ea : lotsD (acc ++ [l]) = lotsD acc ++ [lotD l] := List.map_append
      rw [ea] at ih
      exact ih
def leastL (ls : List (List Str)) : List (List Str) := sortL (greedy (fun k l => partL k l) (sortLen false (sortL (undup ls))) [])
def greatestL (ls : List (List Str)) : List (List Str) := sortL (greedy (fun k l => partL l k) (sortLen true (sortL (undup ls))) [])
theorem undup_len {α : Type} [DecidableEq α] : ∀ l : List α, (undup l).length ≤ l.length
  | [] => Nat.le_refl _
  | x :: l => by
    unfold undup
    have := undup_len l
    split
    · exact Nat.le_succ_of_le this
    · exact Nat.succ_le_succ this
theorem sorted_oks {rev : Bool} {ls : List (List Str)} (h : ∀ l ∈ ls, Oks l) : ∀ l ∈ sortLen rev (sortL (undup ls)), Oks l := fun l m =>
  h l (mem_undup.mp ((sortL_perm _).mem_iff.mp ((List.mergeSort_perm _ _).mem_iff.mp m)))
theorem sorted_few {rev : Bool} {ls : List (List Str)} (few : ls.length < 64) : (sortLen rev (sortL (undup ls))).length < 64 := by
  have e : (sortLen rev (sortL (undup ls))).length = (undup ls).length := (List.mergeSort_perm _ _).length_eq.trans (sortL_perm _).length_eq
  have := undup_len ls
  omega
theorem f_least_is {x : PyData} {ls : List (List Str)} {b : List Int} (hx : opSS x = some (.l (lotsD (sortL (undup ls))))) (few : ls.length < 64) (h : ∀ l ∈ ls, Oks l) : f_least_lots [.d x] b = some (.d (.tuple (lotsD (leastL ls))), b) := by
  unfold f_least_lots g_least_lots dSS
  have few2 : (sortL (undup ls)).length < 64 := by
    have := undup_len ls
    rw [(sortL_perm _).length_eq]
    omega
  obtain ⟨o5, o6, e⟩ := greedy_loop (rel := fun k l => partL k l) (call := dCall f_is_part (dCons (dV 4) (dCons (dV 3) dNil))) (a0 := some (.d x)) (a1 := some (.own (lotsD (sortL (undup ls))))) (b := b) (fun k l o2 hk hl => by
    have e4 : f_is_part [.d (lotD k), .d (lotD l)] b = _ := f_is_part_is hk hl
    simp only [e_op4, e_op3, e_op2, e_op1, e_op, e_un2, e_un1, e_un, e_seq_nx, e_seq_rt, e_seq_bk, e_seq_ct, e_seq, e_nx, e_bk, e_ct, e_put, e_set1, e_set, e_drop1, e_drop, e_ret1, e_ret, e_retN, e_if_t, e_if_f, e_ifS, e_ifE, e_test1, e_test, e_not1, e_not, e_and_t, e_and_f, e_and, e_or_t, e_or_f, e_or, e_andV_t, e_andV_f, e_andV, e_orV_t, e_orV_f, e_orV, e_notV1, e_notV, e_nil, e_cons2, e_cons1, e_cons, e_tk2, e_tk1, e_tk0, e_tk, e_tup2, e_tup1, e_tup, e_lst2, e_lst1, e_lst, e_da1, e_da0, e_da, e_cb2, e_cb1, e_cb, e_v_d, e_v_o, e_v_b, e_v, e_c, e_h_d, e_h_f, e_h_s, e_h_b, e_at1, e_at, e_lm, e_d_d, e_d_f, e_d_s, e_d_b, e_ts, e_t_d, e_t_f, e_t_s, e_p_d, e_p_l, e_p_t, e_put_d, e_put_f, e_put_b, e_bx1, e_bx, e_ap2, e_ap1, e_ap0, e_apS, e_ap, e_arg2, e_arg1, e_arg0, e_arg_b, e_arg_d, e_arg_s, e_cl3, e_cl2, e_cl1, e_cl, e_rv_d, e_rv_o, e_rv_b, e_df2, e_df_r, e_df_n, e_df, e_om, e_r_d, e_r_f, e_r_s, e_r_b, e_ff_n, e_ff_c, e_ff_b, e_ff_r, e_fg, e_fr1, e_fr, e_nm, e_im, e_it2, e_it1, e_it, e_i_l, e_i_t, e_lc3, e_lc1, e_lc, e_io1, e_io, e_iv2, e_iv_d, e_iv_o, e_iv, e_ch6, e_ch5, e_ch4t, e_ch4f, e_ch3, e_ch2, e_ch1, e_ch, e_so_d, e_so_f, e_pr3, e_pr2, e_pr1, e_pr, e_sl4, e_sl3, e_sl2, e_sl1, e_sl, e_nop, e_pt1, e_pt, o_sl_l, o_sl_t, e_yes, e_wp, e_wp0, e_wp1, e_re0, e_re1, e_kd_d, e_kd_o, e_kd_b, e_kd_n, o_add_i, o_add_s, o_add_l, o_add_t, o_sub, o_mul, o_div, o_mod, o_pow, o_lt_i, o_lt_s, o_le_i, o_le_s, o_gt_i, o_ge_i, o_ix_l, o_ix_t, o_ixK, o_len_l, o_len_t, o_len_s, o_int_i, o_int_b, o_abs, o_max, o_min, o_lst_l, o_lst_t, o_tup_l, o_tup_t, List.map_cons, List.map_nil, List.append_nil, List.nil_append, List.cons_append, List.length_cons, List.length_nil, List.getElem?_cons_zero, List.getElem?_cons_succ, List.set_cons_zero, List.set_cons_succ, if_true, if_false, List.replicate_zero, List.replicate_succ, List.length_set, Bool.not_true, Bool.not_false, decide_true, decide_false, true_and, and_true, Nat.reduceAdd, Nat.reduceLT, Nat.reduceLeDiff, reduceIte, reduceCtorEq, e4]) (sortLen false (sortL (undup ls))) [] none none (sorted_oks h) (fun l m => absurd m (by simp)) (by have := sorted_few (rev := false) few; show 0 + _ < 1000; omega)
  have e' : forFold (dName 3) (dIfS (dNot (dTest (dCB opAny (dCons (dLc [4] (dItV [4] 2) (dName 4) dYes (dCall f_is_part (dCons (dV 4) (dCons (dV 3) dNil)))) dNil)))) (dApp 2 (dV 3)) dNx) (lotsD (sortLen false (sortL (undup ls)))) ⟨[some (.d x), some (.own (lotsD (sortL (undup ls)))), some (.own []), none, none], b⟩ = _ := e
  have so := sortLen_op false (ls := sortL (undup ls)) (by omega)
  have c0 : ([] : List PyData).length ≤ 100000 := by show 0 ≤ 100000; decide
  simp only [e_op4, e_op3, e_op2, e_op1, e_op, e_un2, e_un1, e_un, e_seq_nx, e_seq_rt, e_seq_bk, e_seq_ct, e_seq, e_nx, e_bk, e_ct, e_put, e_set1, e_set, e_drop1, e_drop, e_ret1, e_ret, e_retN, e_if_t, e_if_f, e_ifS, e_ifE, e_test1, e_test, e_not1, e_not, e_and_t, e_and_f, e_and, e_or_t, e_or_f, e_or, e_andV_t, e_andV_f, e_andV, e_orV_t, e_orV_f, e_orV, e_notV1, e_notV, e_nil, e_cons2, e_cons1, e_cons, e_tk2, e_tk1, e_tk0, e_tk, e_tup2, e_tup1, e_tup, e_lst2, e_lst1, e_lst, e_da1, e_da0, e_da, e_cb2, e_cb1, e_cb, e_v_d, e_v_o, e_v_b, e_v, e_c, e_h_d, e_h_f, e_h_s, e_h_b, e_at1, e_at, e_lm, e_d_d, e_d_f, e_d_s, e_d_b, e_ts, e_t_d, e_t_f, e_t_s, e_p_d, e_p_l, e_p_t, e_put_d, e_put_f, e_put_b, e_bx1, e_bx, e_ap2, e_ap1, e_ap0, e_apS, e_ap, e_arg2, e_arg1, e_arg0, e_arg_b, e_arg_d, e_arg_s, e_cl3, e_cl2, e_cl1, e_cl, e_rv_d, e_rv_o, e_rv_b, e_df2, e_df_r, e_df_n, e_df, e_om, e_r_d, e_r_f, e_r_s, e_r_b, e_ff_n, e_ff_c, e_ff_b, e_ff_r, e_fg, e_fr1, e_fr, e_nm, e_im, e_it2, e_it1, e_it, e_i_l, e_i_t, e_lc3, e_lc1, e_lc, e_io1, e_io, e_iv2, e_iv_d, e_iv_o, e_iv, e_ch6, e_ch5, e_ch4t, e_ch4f, e_ch3, e_ch2, e_ch1, e_ch, e_so_d, e_so_f, e_pr3, e_pr2, e_pr1, e_pr, e_sl4, e_sl3, e_sl2, e_sl1, e_sl, e_nop, e_pt1, e_pt, o_sl_l, o_sl_t, e_yes, e_wp, e_wp0, e_wp1, e_re0, e_re1, e_kd_d, e_kd_o, e_kd_b, e_kd_n, o_add_i, o_add_s, o_add_l, o_add_t, o_sub, o_mul, o_div, o_mod, o_pow, o_lt_i, o_lt_s, o_le_i, o_le_s, o_gt_i, o_ge_i, o_ix_l, o_ix_t, o_ixK, o_len_l, o_len_t, o_len_s, o_int_i, o_int_b, o_abs, o_max, o_min, o_lst_l, o_lst_t, o_tup_l, o_tup_t, List.map_cons, List.map_nil, List.append_nil, List.nil_append, List.cons_append, List.length_cons, List.length_nil, List.getElem?_cons_zero, List.getElem?_cons_succ, List.set_cons_zero, List.set_cons_succ, if_true, if_false, List.replicate_zero, List.replicate_succ, List.length_set, Bool.not_true, Bool.not_false, decide_true, decide_false, true_and, and_true, Nat.reduceAdd, Nat.reduceLT, Nat.reduceLeDiff, reduceIte, reduceCtorEq, hx, c0, so, e', sort_lots_op]
  rfl
theorem f_greatest_is {x : PyData} {ls : List (List Str)} {b : List Int} (hx : opSS x = some (.l (lotsD (sortL (undup ls))))) (few : ls.length < 64) (h : ∀ l ∈ ls, Oks l) : f_greatest_lots [.d x] b = some (.d (.tuple (lotsD (greatestL ls))), b) := by
  unfold f_greatest_lots g_greatest_lots dSS
  have few2 : (sortL (undup ls)).length < 64 := by
    have := undup_len ls
    rw [(sortL_perm _).length_eq]
    omega
  obtain ⟨o5, o6, e⟩ := greedy_loop (rel := fun k l => partL l k) (call := dCall f_is_part (dCons (dV 3) (dCons (dV 4) dNil))) (a0 := some (.d x)) (a1 := some (.own (lotsD (sortL (undup ls))))) (b := b) (fun k l o2 hk hl => by
    have e4 : f_is_part [.d (lotD l), .d (lotD k)] b = _ := f_is_part_is hl hk
    simp only [e_op4, e_op3, e_op2, e_op1, e_op, e_un2, e_un1, e_un, e_seq_nx, e_seq_rt, e_seq_bk, e_seq_ct, e_seq, e_nx, e_bk, e_ct, e_put, e_set1, e_set, e_drop1, e_drop, e_ret1, e_ret, e_retN, e_if_t, e_if_f, e_ifS, e_ifE, e_test1, e_test, e_not1, e_not, e_and_t, e_and_f, e_and, e_or_t, e_or_f, e_or, e_andV_t, e_andV_f, e_andV, e_orV_t, e_orV_f, e_orV, e_notV1, e_notV, e_nil, e_cons2, e_cons1, e_cons, e_tk2, e_tk1, e_tk0, e_tk, e_tup2, e_tup1, e_tup, e_lst2, e_lst1, e_lst, e_da1, e_da0, e_da, e_cb2, e_cb1, e_cb, e_v_d, e_v_o, e_v_b, e_v, e_c, e_h_d, e_h_f, e_h_s, e_h_b, e_at1, e_at, e_lm, e_d_d, e_d_f, e_d_s, e_d_b, e_ts, e_t_d, e_t_f, e_t_s, e_p_d, e_p_l, e_p_t, e_put_d, e_put_f, e_put_b, e_bx1, e_bx, e_ap2, e_ap1, e_ap0, e_apS, e_ap, e_arg2, e_arg1, e_arg0, e_arg_b, e_arg_d, e_arg_s, e_cl3, e_cl2, e_cl1, e_cl, e_rv_d, e_rv_o, e_rv_b, e_df2, e_df_r, e_df_n, e_df, e_om, e_r_d, e_r_f, e_r_s, e_r_b, e_ff_n, e_ff_c, e_ff_b, e_ff_r, e_fg, e_fr1, e_fr, e_nm, e_im, e_it2, e_it1, e_it, e_i_l, e_i_t, e_lc3, e_lc1, e_lc, e_io1, e_io, e_iv2, e_iv_d, e_iv_o, e_iv, e_ch6, e_ch5, e_ch4t, e_ch4f, e_ch3, e_ch2, e_ch1, e_ch, e_so_d, e_so_f, e_pr3, e_pr2, e_pr1, e_pr, e_sl4, e_sl3, e_sl2, e_sl1, e_sl, e_nop, e_pt1, e_pt, o_sl_l, o_sl_t, e_yes, e_wp, e_wp0, e_wp1, e_re0, e_re1, e_kd_d, e_kd_o, e_kd_b, e_kd_n, o_add_i, o_add_s, o_add_l, o_add_t, o_sub, o_mul, o_div, o_mod, o_pow, o_lt_i, o_lt_s, o_le_i, o_le_s, o_gt_i, o_ge_i, o_ix_l, o_ix_t, o_ixK, o_len_l, o_len_t, o_len_s, o_int_i, o_int_b, o_abs, o_max, o_min, o_lst_l, o_lst_t, o_tup_l, o_tup_t, List.map_cons, List.map_nil, List.append_nil, List.nil_append, List.cons_append, List.length_cons, List.length_nil, List.getElem?_cons_zero, List.getElem?_cons_succ, List.set_cons_zero, List.set_cons_succ, if_true, if_false, List.replicate_zero, List.replicate_succ, List.length_set, Bool.not_true, Bool.not_false, decide_true, decide_false, true_and, and_true, Nat.reduceAdd, Nat.reduceLT, Nat.reduceLeDiff, reduceIte, reduceCtorEq, e4]) (sortLen true (sortL (undup ls))) [] none none (sorted_oks h) (fun l m => absurd m (by simp)) (by have := sorted_few (rev := true) few; show 0 + _ < 1000; omega)
  have e' : forFold (dName 3) (dIfS (dNot (dTest (dCB opAny (dCons (dLc [4] (dItV [4] 2) (dName 4) dYes (dCall f_is_part (dCons (dV 3) (dCons (dV 4) dNil)))) dNil)))) (dApp 2 (dV 3)) dNx) (lotsD (sortLen true (sortL (undup ls)))) ⟨[some (.d x), some (.own (lotsD (sortL (undup ls)))), some (.own []), none, none], b⟩ = _ := e
  have so := sortLen_op true (ls := sortL (undup ls)) (by omega)
  have c0 : ([] : List PyData).length ≤ 100000 := by show 0 ≤ 100000; decide
  simp only [e_op4, e_op3, e_op2, e_op1, e_op, e_un2, e_un1, e_un, e_seq_nx, e_seq_rt, e_seq_bk, e_seq_ct, e_seq, e_nx, e_bk, e_ct, e_put, e_set1, e_set, e_drop1, e_drop, e_ret1, e_ret, e_retN, e_if_t, e_if_f, e_ifS, e_ifE, e_test1, e_test, e_not1, e_not, e_and_t, e_and_f, e_and, e_or_t, e_or_f, e_or, e_andV_t, e_andV_f, e_andV, e_orV_t, e_orV_f, e_orV, e_notV1, e_notV, e_nil, e_cons2, e_cons1, e_cons, e_tk2, e_tk1, e_tk0, e_tk, e_tup2, e_tup1, e_tup, e_lst2, e_lst1, e_lst, e_da1, e_da0, e_da, e_cb2, e_cb1, e_cb, e_v_d, e_v_o, e_v_b, e_v, e_c, e_h_d, e_h_f, e_h_s, e_h_b, e_at1, e_at, e_lm, e_d_d, e_d_f, e_d_s, e_d_b, e_ts, e_t_d, e_t_f, e_t_s, e_p_d, e_p_l, e_p_t, e_put_d, e_put_f, e_put_b, e_bx1, e_bx, e_ap2, e_ap1, e_ap0, e_apS, e_ap, e_arg2, e_arg1, e_arg0, e_arg_b, e_arg_d, e_arg_s, e_cl3, e_cl2, e_cl1, e_cl, e_rv_d, e_rv_o, e_rv_b, e_df2, e_df_r, e_df_n, e_df, e_om, e_r_d, e_r_f, e_r_s, e_r_b, e_ff_n, e_ff_c, e_ff_b, e_ff_r, e_fg, e_fr1, e_fr, e_nm, e_im, e_it2, e_it1, e_it, e_i_l, e_i_t, e_lc3, e_lc1, e_lc, e_io1, e_io, e_iv2, e_iv_d, e_iv_o, e_iv, e_ch6, e_ch5, e_ch4t, e_ch4f, e_ch3, e_ch2, e_ch1, e_ch, e_so_d, e_so_f, e_pr3, e_pr2, e_pr1, e_pr, e_sl4, e_sl3, e_sl2, e_sl1, e_sl, e_nop, e_pt1, e_pt, o_sl_l, o_sl_t, e_yes, e_wp, e_wp0, e_wp1, e_re0, e_re1, e_kd_d, e_kd_o, e_kd_b, e_kd_n, o_add_i, o_add_s, o_add_l, o_add_t, o_sub, o_mul, o_div, o_mod, o_pow, o_lt_i, o_lt_s, o_le_i, o_le_s, o_gt_i, o_ge_i, o_ix_l, o_ix_t, o_ixK, o_len_l, o_len_t, o_len_s, o_int_i, o_int_b, o_abs, o_max, o_min, o_lst_l, o_lst_t, o_tup_l, o_tup_t, List.map_cons, List.map_nil, List.append_nil, List.nil_append, List.cons_append, List.length_cons, List.length_nil, List.getElem?_cons_zero, List.getElem?_cons_succ, List.set_cons_zero, List.set_cons_succ, if_true, if_false, List.replicate_zero, List.replicate_succ, List.length_set, Bool.not_true, Bool.not_false, decide_true, decide_false, true_and, and_true, Nat.reduceAdd, Nat.reduceLT, Nat.reduceLeDiff, reduceIte, reduceCtorEq, hx, c0, so, e', sort_lots_op]
  rfl
end XN

set_option maxRecDepth 100000
set_option maxHeartbeats 4000000
/-! what is a name, what is a lot -/
namespace XN
open PySem PySem.Spec PyProof.Rows PySem.W L2 Evl XD

def letB (c : Nat) : Bool := decide (97 ≤ c ∧ c ≤ 122)
def nameL (z : Str) : Bool := decide (1 ≤ z.length ∧ z.length ≤ 5) && z.cps.toList.all letB
def nameD : PyData → Bool
  | .str z => nameL z
  | _ => false
theorem lt_one (a c : Nat) : decide (([a] : List Nat) < [c]) = decide (a < c) := by
  by_cases h : a < c
  · rw [decide_eq_true h]
    exact decide_eq_true (List.Lex.rel h)
  · rw [decide_eq_false h]
    refine decide_eq_false fun q => ?_
    cases q with
    | rel q => exact h q
    | cons q => cases q
theorem a_le {c : Nat} (h : 97 ≤ c) : decide (([c] : List Nat) < (Str.ofString "a").cps.toList) = false := (lt_one c 97).trans (decide_eq_false (by omega))
theorem a_gt {c : Nat} (h : ¬ 97 ≤ c) : decide (([c] : List Nat) < (Str.ofString "a").cps.toList) = true := (lt_one c 97).trans (decide_eq_true (by omega))
theorem z_le {c : Nat} (h : c ≤ 122) : decide ((Str.ofString "z").cps.toList < ([c] : List Nat)) = false := (lt_one 122 c).trans (decide_eq_false (by omega))
theorem z_gt {c : Nat} (h : ¬ c ≤ 122) : decide ((Str.ofString "z").cps.toList < ([c] : List Nat)) = true := (lt_one 122 c).trans (decide_eq_true (by omega))
theorem isi_str (z : Str) : opIsi "str" (.str z) = some (.d (.bool true)) := rfl
theorem isi_not {x : PyData} (h : ∀ z, x ≠ .str z) (hd : ∀ ys, x ≠ .dict ys) : opIsi "str" x = some (.d (.bool false)) := by
  cases x with
  | str z => exact absurd rfl (h z)
  | none => exact congrArg _ (show kitB "NoneType" "str" = some false by decide +kernel)
  | bool b => exact congrArg _ (show kitB "bool" "str" = some false by decide +kernel)
  | int b => exact congrArg _ (show kitB "int" "str" = some false by decide +kernel)
  | list b => exact congrArg _ (show kitB "list" "str" = some false by decide +kernel)
  | tuple b => exact congrArg _ (show kitB "tuple" "str" = some false by decide +kernel)
  | dict b => exact absurd rfl (hd b)
theorem name_loop {a0 : Option SV} {b : List Int} : ∀ (cs : List Nat) (o : Option SV), ∃ o2, forFold (dName 1) (dIfS (dNot (dTest (dChain opLe opLe (dC (.str "a")) (dV 1) (dC (.str "z"))))) (dRet (dC (.bool false))) dNx) (cs.map fun c => .str ⟨#[c]⟩) ⟨[a0, o], b⟩ =
    some (if cs.all letB = true then OutS.nx else .rt (.d (.bool false)), ⟨[a0, o2], b⟩)
  | [], o => ⟨o, rfl⟩
  | c :: cs, o => by
    have c1 : 1 < [a0, o].length := Nat.lt_succ_self 1
    show ∃ o2, forFold _ _ (PyData.str ⟨#[c]⟩ :: cs.map fun c => PyData.str ⟨#[c]⟩) _ = _
    rw [for_cons]
    by_cases ha : 97 ≤ c
    · by_cases hz : c ≤ 122
      · obtain ⟨o2, ih⟩ := name_loop (a0 := a0) (b := b) cs (some (.d (.str ⟨#[c]⟩)))
        refine ⟨o2, ?_⟩
        simp only [e_op4, e_op3, e_op2, e_op1, e_op, e_un2, e_un1, e_un, e_seq_nx, e_seq_rt, e_seq_bk, e_seq_ct, e_seq, e_nx, e_bk, e_ct, e_put, e_set1, e_set, e_drop1, e_drop, e_ret1, e_ret, e_retN, e_if_t, e_if_f, e_ifS, e_ifE, e_test1, e_test, e_not1, e_not, e_and_t, e_and_f, e_and, e_or_t, e_or_f, e_or, e_andV_t, e_andV_f, e_andV, e_orV_t, e_orV_f, e_orV, e_notV1, e_notV, e_nil, e_cons2, e_cons1, e_cons, e_tk2, e_tk1, e_tk0, e_tk, e_tup2, e_tup1, e_tup, e_lst2, e_lst1, e_lst, e_da1, e_da0, e_da, e_cb2, e_cb1, e_cb, e_v_d, e_v_o, e_v_b, e_v, e_c, e_h_d, e_h_f, e_h_s, e_h_b, e_at1, e_at, e_lm, e_d_d, e_d_f, e_d_s, e_d_b, e_ts, e_t_d, e_t_f, e_t_s, e_p_d, e_p_l, e_p_t, e_put_d, e_put_f, e_put_b, e_bx1, e_bx, e_ap2, e_ap1, e_ap0, e_apS, e_ap, e_arg2, e_arg1, e_arg0, e_arg_b, e_arg_d, e_arg_s, e_cl3, e_cl2, e_cl1, e_cl, e_rv_d, e_rv_o, e_rv_b, e_df2, e_df_r, e_df_n, e_df, e_om, e_r_d, e_r_f, e_r_s, e_r_b, e_ff_n, e_ff_c, e_ff_b, e_ff_r, e_fg, e_fr1, e_fr, e_nm, e_im, e_it2, e_it1, e_it, e_i_l, e_i_t, e_lc3, e_lc1, e_lc, e_io1, e_io, e_iv2, e_iv_d, e_iv_o, e_iv, e_ch6, e_ch5, e_ch4t, e_ch4f, e_ch3, e_ch2, e_ch1, e_ch, e_so_d, e_so_f, e_pr3, e_pr2, e_pr1, e_pr, e_sl4, e_sl3, e_sl2, e_sl1, e_sl, e_nop, e_pt1, e_pt, o_sl_l, o_sl_t, e_yes, e_wp, e_wp0, e_wp1, e_re0, e_re1, e_kd_d, e_kd_o, e_kd_b, e_kd_n, o_add_i, o_add_s, o_add_l, o_add_t, o_sub, o_mul, o_div, o_mod, o_pow, o_lt_i, o_lt_s, o_le_i, o_le_s, o_gt_i, o_ge_i, o_ix_l, o_ix_t, o_ixK, o_len_l, o_len_t, o_len_s, o_int_i, o_int_b, o_abs, o_max, o_min, o_lst_l, o_lst_t, o_tup_l, o_tup_t, List.map_cons, List.map_nil, List.append_nil, List.nil_append, List.cons_append, List.length_cons, List.length_nil, List.getElem?_cons_zero, List.getElem?_cons_succ, List.set_cons_zero, List.set_cons_succ, if_true, if_false, List.replicate_zero, List.replicate_succ, List.length_set, Bool.not_true, Bool.not_false, decide_true, decide_false, true_and, and_true, Nat.reduceAdd, Nat.reduceLT, Nat.reduceLeDiff, reduceIte, reduceCtorEq, c1, a_le ha, z_le hz]
        have e : (c :: cs).all letB = cs.all letB := by
          rw [List.all_cons, show letB c = true from decide_eq_true ⟨ha, hz⟩, Bool.true_and]
        rw [e]
        exact ih
      · refine ⟨some (.d (.str ⟨#[c]⟩)), ?_⟩
        simp only [e_op4, e_op3, e_op2, e_op1, e_op, e_un2, e_un1, e_un, e_seq_nx, e_seq_rt, e_seq_bk, e_seq_ct, e_seq, e_nx, e_bk, e_ct, e_put, e_set1, e_set, e_drop1, e_drop, e_ret1, e_ret, e_retN, e_if_t, e_if_f, e_ifS, e_ifE, e_test1, e_test, e_not1, e_not, e_and_t, e_and_f, e_and, e_or_t, e_or_f, e_or, e_andV_t, e_andV_f, e_andV, e_orV_t, e_orV_f, e_orV, e_notV1, e_notV, e_nil, e_cons2, e_cons1, e_cons, e_tk2, e_tk1, e_tk0, e_tk, e_tup2, e_tup1, e_tup, e_lst2, e_lst1, e_lst, e_da1, e_da0, e_da, e_cb2, e_cb1, e_cb, e_v_d, e_v_o, e_v_b, e_v, e_c, e_h_d, e_h_f, e_h_s, e_h_b, e_at1, e_at, e_lm, e_d_d, e_d_f, e_d_s, e_d_b, e_ts, e_t_d, e_t_f, e_t_s, e_p_d, e_p_l, e_p_t, e_put_d, e_put_f, e_put_b, e_bx1, e_bx, e_ap2, e_ap1, e_ap0, e_apS, e_ap, e_arg2, e_arg1, e_arg0, e_arg_b, e_arg_d, e_arg_s, e_cl3, e_cl2, e_cl1, e_cl, e_rv_d, e_rv_o, e_rv_b, e_df2, e_df_r, e_df_n, e_df, e_om, e_r_d, e_r_f, e_r_s, e_r_b, e_ff_n, e_ff_c, e_ff_b, e_ff_r, e_fg, e_fr1, e_fr, e_nm, e_im, e_it2, e_it1, e_it, e_i_l, e_i_t, e_lc3, e_lc1, e_lc, e_io1, e_io, e_iv2, e_iv_d, e_iv_o, e_iv, e_ch6, e_ch5, e_ch4t, e_ch4f, e_ch3, e_ch2, e_ch1, e_ch, e_so_d, e_so_f, e_pr3, e_pr2, e_pr1, e_pr, e_sl4, e_sl3, e_sl2, e_sl1, e_sl, e_nop, e_pt1, e_pt, o_sl_l, o_sl_t, e_yes, e_wp, e_wp0, e_wp1, e_re0, e_re1, e_kd_d, e_kd_o, e_kd_b, e_kd_n, o_add_i, o_add_s, o_add_l, o_add_t, o_sub, o_mul, o_div, o_mod, o_pow, o_lt_i, o_lt_s, o_le_i, o_le_s, o_gt_i, o_ge_i, o_ix_l, o_ix_t, o_ixK, o_len_l, o_len_t, o_len_s, o_int_i, o_int_b, o_abs, o_max, o_min, o_lst_l, o_lst_t, o_tup_l, o_tup_t, List.map_cons, List.map_nil, List.append_nil, List.nil_append, List.cons_append, List.length_cons, List.length_nil, List.getElem?_cons_zero, List.getElem?_cons_succ, List.set_cons_zero, List.set_cons_succ, if_true, if_false, List.replicate_zero, List.replicate_succ, List.length_set, Bool.not_true, Bool.not_false, decide_true, decide_false, true_and, and_true, Nat.reduceAdd, Nat.reduceLT, Nat.reduceLeDiff, reduceIte, reduceCtorEq, c1, a_le ha, z_gt hz]
        have e : (c :: cs).all letB = false := by
          rw [List.all_cons, show letB c = false from decide_eq_false fun q => hz q.2, Bool.false_and]
        rw [e]
        rfl
    · refine ⟨some (.d (.str ⟨#[c]⟩)), ?_⟩
      simp only [e_op4, e_op3, e_op2, e_op1, e_op, e_un2, e_un1, e_un, e_seq_nx, e_seq_rt, e_seq_bk, e_seq_ct, e_seq, e_nx, e_bk, e_ct, e_put, e_set1, e_set, e_drop1, e_drop, e_ret1, e_ret, e_retN, e_if_t, e_if_f, e_ifS, e_ifE, e_test1, e_test, e_not1, e_not, e_and_t, e_and_f, e_and, e_or_t, e_or_f, e_or, e_andV_t, e_andV_f, e_andV, e_orV_t, e_orV_f, e_orV, e_notV1, e_notV, e_nil, e_cons2, e_cons1, e_cons, e_tk2, e_tk1, e_tk0, e_tk, e_tup2, e_tup1, e_tup, e_lst2, e_lst1, e_lst, e_da1, e_da0, e_da, e_cb2, e_cb1, e_cb, e_v_d, e_v_o, e_v_b, e_v, e_c, e_h_d, e_h_f, e_h_s, e_h_b, e_at1, e_at, e_lm, e_d_d, e_d_f, e_d_s, e_d_b, e_ts, e_t_d, e_t_f, e_t_s, e_p_d, e_p_l, e_p_t, e_put_d, e_put_f, e_put_b, e_bx1, e_bx, e_ap2, e_ap1, e_ap0, e_apS, e_ap, e_arg2, e_arg1, e_arg0, e_arg_b, e_arg_d, e_arg_s, e_cl3, e_cl2, e_cl1, e_cl, e_rv_d, e_rv_o, e_rv_b, e_df2, e_df_r, e_df_n, e_df, e_om, e_r_d, e_r_f, e_r_s, e_r_b, e_ff_n, e_ff_c, e_ff_b, e_ff_r, e_fg, e_fr1, e_fr, e_nm, e_im, e_it2, e_it1, e_it, e_i_l, e_i_t, e_lc3, e_lc1, e_lc, e_io1, e_io, e_iv2, e_iv_d, e_iv_o, e_iv, e_ch6, e_ch5, e_ch4t, e_ch4f, e_ch3, e_ch2, e_ch1, e_ch, e_so_d, e_so_f, e_pr3, e_pr2, e_pr1, e_pr, e_sl4, e_sl3, e_sl2, e_sl1, e_sl, e_nop, e_pt1, e_pt, o_sl_l, o_sl_t, e_yes, e_wp, e_wp0, e_wp1, e_re0, e_re1, e_kd_d, e_kd_o, e_kd_b, e_kd_n, o_add_i, o_add_s, o_add_l, o_add_t, o_sub, o_mul, o_div, o_mod, o_pow, o_lt_i, o_lt_s, o_le_i, o_le_s, o_gt_i, o_ge_i, o_ix_l, o_ix_t, o_ixK, o_len_l, o_len_t, o_len_s, o_int_i, o_int_b, o_abs, o_max, o_min, o_lst_l, o_lst_t, o_tup_l, o_tup_t, List.map_cons, List.map_nil, List.append_nil, List.nil_append, List.cons_append, List.length_cons, List.length_nil, List.getElem?_cons_zero, List.getElem?_cons_succ, List.set_cons_zero, List.set_cons_succ, if_true, if_false, List.replicate_zero, List.replicate_succ, List.length_set, Bool.not_true, Bool.not_false, decide_true, decide_false, true_and, and_true, Nat.reduceAdd, Nat.reduceLT, Nat.reduceLeDiff, reduceIte, reduceCtorEq, c1, a_gt ha]
      have e : (c :: cs).all letB = false := by
        rw [List.all_cons, show letB c = false from decide_eq_false fun q => ha q.1, Bool.false_and]
      rw [e]
      rfl
theorem f_is_name_is {x : PyData} {b : List Int} (hd : ∀ ys, x ≠ .dict ys) (hz : ∀ z, x = .str z → z.length ≤ 100000) : f_is_name [.d x] b = some (.d (.bool (nameD x)), b) := by
  unfold f_is_name g_is_name
  by_cases hs : ∃ z, x = .str z
  · obtain ⟨z, rfl⟩ := hs
    have hl := hz z rfl
    obtain ⟨o2, e⟩ := name_loop (a0 := some (.d (.str z))) (b := b) z.cps.toList none
    have it : items (.str z) = some (z.cps.toList.map fun c => .str ⟨#[c]⟩) := rfl
    by_cases h1 : (1 : Int) ≤ (z.length : Int)
    · by_cases h5 : (z.length : Int) ≤ 5
      · have dn : nameD (.str z) = z.cps.toList.all letB := by
          show (decide (1 ≤ z.length ∧ z.length ≤ 5) && z.cps.toList.all letB) = _
          rw [decide_eq_true ⟨by omega, by omega⟩, Bool.true_and]
        rw [dn]
        cases hb : z.cps.toList.all letB with
        | true =>
          rw [hb] at e
          simp only [e_op4, e_op3, e_op2, e_op1, e_op, e_un2, e_un1, e_un, e_seq_nx, e_seq_rt, e_seq_bk, e_seq_ct, e_seq, e_nx, e_bk, e_ct, e_put, e_set1, e_set, e_drop1, e_drop, e_ret1, e_ret, e_retN, e_if_t, e_if_f, e_ifS, e_ifE, e_test1, e_test, e_not1, e_not, e_and_t, e_and_f, e_and, e_or_t, e_or_f, e_or, e_andV_t, e_andV_f, e_andV, e_orV_t, e_orV_f, e_orV, e_notV1, e_notV, e_nil, e_cons2, e_cons1, e_cons, e_tk2, e_tk1, e_tk0, e_tk, e_tup2, e_tup1, e_tup, e_lst2, e_lst1, e_lst, e_da1, e_da0, e_da, e_cb2, e_cb1, e_cb, e_v_d, e_v_o, e_v_b, e_v, e_c, e_h_d, e_h_f, e_h_s, e_h_b, e_at1, e_at, e_lm, e_d_d, e_d_f, e_d_s, e_d_b, e_ts, e_t_d, e_t_f, e_t_s, e_p_d, e_p_l, e_p_t, e_put_d, e_put_f, e_put_b, e_bx1, e_bx, e_ap2, e_ap1, e_ap0, e_apS, e_ap, e_arg2, e_arg1, e_arg0, e_arg_b, e_arg_d, e_arg_s, e_cl3, e_cl2, e_cl1, e_cl, e_rv_d, e_rv_o, e_rv_b, e_df2, e_df_r, e_df_n, e_df, e_om, e_r_d, e_r_f, e_r_s, e_r_b, e_ff_n, e_ff_c, e_ff_b, e_ff_r, e_fg, e_fr1, e_fr, e_nm, e_im, e_it2, e_it1, e_it, e_i_l, e_i_t, e_lc3, e_lc1, e_lc, e_io1, e_io, e_iv2, e_iv_d, e_iv_o, e_iv, e_ch6, e_ch5, e_ch4t, e_ch4f, e_ch3, e_ch2, e_ch1, e_ch, e_so_d, e_so_f, e_pr3, e_pr2, e_pr1, e_pr, e_sl4, e_sl3, e_sl2, e_sl1, e_sl, e_nop, e_pt1, e_pt, o_sl_l, o_sl_t, e_yes, e_wp, e_wp0, e_wp1, e_re0, e_re1, e_kd_d, e_kd_o, e_kd_b, e_kd_n, o_add_i, o_add_s, o_add_l, o_add_t, o_sub, o_mul, o_div, o_mod, o_pow, o_lt_i, o_lt_s, o_le_i, o_le_s, o_gt_i, o_ge_i, o_ix_l, o_ix_t, o_ixK, o_len_l, o_len_t, o_len_s, o_int_i, o_int_b, o_abs, o_max, o_min, o_lst_l, o_lst_t, o_tup_l, o_tup_t, List.map_cons, List.map_nil, List.append_nil, List.nil_append, List.cons_append, List.length_cons, List.length_nil, List.getElem?_cons_zero, List.getElem?_cons_succ, List.set_cons_zero, List.set_cons_succ, if_true, if_false, List.replicate_zero, List.replicate_succ, List.length_set, Bool.not_true, Bool.not_false, decide_true, decide_false, true_and, and_true, Nat.reduceAdd, Nat.reduceLT, Nat.reduceLeDiff, reduceIte, reduceCtorEq, isi_str, hl, h1, h5, it, e]
        | false =>
          rw [hb] at e
          simp only [e_op4, e_op3, e_op2, e_op1, e_op, e_un2, e_un1, e_un, e_seq_nx, e_seq_rt, e_seq_bk, e_seq_ct, e_seq, e_nx, e_bk, e_ct, e_put, e_set1, e_set, e_drop1, e_drop, e_ret1, e_ret, e_retN, e_if_t, e_if_f, e_ifS, e_ifE, e_test1, e_test, e_not1, e_not, e_and_t, e_and_f, e_and, e_or_t, e_or_f, e_or, e_andV_t, e_andV_f, e_andV, e_orV_t, e_orV_f, e_orV, e_notV1, e_notV, e_nil, e_cons2, e_cons1, e_cons, e_tk2, e_tk1, e_tk0, e_tk, e_tup2, e_tup1, e_tup, e_lst2, e_lst1, e_lst, e_da1, e_da0, e_da, e_cb2, e_cb1, e_cb, e_v_d, e_v_o, e_v_b, e_v, e_c, e_h_d, e_h_f, e_h_s, e_h_b, e_at1, e_at, e_lm, e_d_d, e_d_f, e_d_s, e_d_b, e_ts, e_t_d, e_t_f, e_t_s, e_p_d, e_p_l, e_p_t, e_put_d, e_put_f, e_put_b, e_bx1, e_bx, e_ap2, e_ap1, e_ap0, e_apS, e_ap, e_arg2, e_arg1, e_arg0, e_arg_b, e_arg_d, e_arg_s, e_cl3, e_cl2, e_cl1, e_cl, e_rv_d, e_rv_o, e_rv_b, e_df2, e_df_r, e_df_n, e_df, e_om, e_r_d, e_r_f, e_r_s, e_r_b, e_ff_n, e_ff_c, e_ff_b, e_ff_r, e_fg, e_fr1, e_fr, e_nm, e_im, e_it2, e_it1, e_it, e_i_l, e_i_t, e_lc3, e_lc1, e_lc, e_io1, e_io, e_iv2, e_iv_d, e_iv_o, e_iv, e_ch6, e_ch5, e_ch4t, e_ch4f, e_ch3, e_ch2, e_ch1, e_ch, e_so_d, e_so_f, e_pr3, e_pr2, e_pr1, e_pr, e_sl4, e_sl3, e_sl2, e_sl1, e_sl, e_nop, e_pt1, e_pt, o_sl_l, o_sl_t, e_yes, e_wp, e_wp0, e_wp1, e_re0, e_re1, e_kd_d, e_kd_o, e_kd_b, e_kd_n, o_add_i, o_add_s, o_add_l, o_add_t, o_sub, o_mul, o_div, o_mod, o_pow, o_lt_i, o_lt_s, o_le_i, o_le_s, o_gt_i, o_ge_i, o_ix_l, o_ix_t, o_ixK, o_len_l, o_len_t, o_len_s, o_int_i, o_int_b, o_abs, o_max, o_min, o_lst_l, o_lst_t, o_tup_l, o_tup_t, List.map_cons, List.map_nil, List.append_nil, List.nil_append, List.cons_append, List.length_cons, List.length_nil, List.getElem?_cons_zero, List.getElem?_cons_succ, List.set_cons_zero, List.set_cons_succ, if_true, if_false, List.replicate_zero, List.replicate_succ, List.length_set, Bool.not_true, Bool.not_false, decide_true, decide_false, true_and, and_true, Nat.reduceAdd, Nat.reduceLT, Nat.reduceLeDiff, reduceIte, reduceCtorEq, isi_str, hl, h1, h5, it, e]
      · have dn : nameD (.str z) = false := by
          show (decide (1 ≤ z.length ∧ z.length ≤ 5) && z.cps.toList.all letB) = _
          rw [decide_eq_false (by omega), Bool.false_and]
        rw [dn]
        simp only [e_op4, e_op3, e_op2, e_op1, e_op, e_un2, e_un1, e_un, e_seq_nx, e_seq_rt, e_seq_bk, e_seq_ct, e_seq, e_nx, e_bk, e_ct, e_put, e_set1, e_set, e_drop1, e_drop, e_ret1, e_ret, e_retN, e_if_t, e_if_f, e_ifS, e_ifE, e_test1, e_test, e_not1, e_not, e_and_t, e_and_f, e_and, e_or_t, e_or_f, e_or, e_andV_t, e_andV_f, e_andV, e_orV_t, e_orV_f, e_orV, e_notV1, e_notV, e_nil, e_cons2, e_cons1, e_cons, e_tk2, e_tk1, e_tk0, e_tk, e_tup2, e_tup1, e_tup, e_lst2, e_lst1, e_lst, e_da1, e_da0, e_da, e_cb2, e_cb1, e_cb, e_v_d, e_v_o, e_v_b, e_v, e_c, e_h_d, e_h_f, e_h_s, e_h_b, e_at1, e_at, e_lm, e_d_d, e_d_f, e_d_s, e_d_b, e_ts, e_t_d, e_t_f, e_t_s, e_p_d, e_p_l, e_p_t, e_put_d, e_put_f, e_put_b, e_bx1, e_bx, e_ap2, e_ap1, e_ap0, e_apS, e_ap, e_arg2, e_arg1, e_arg0, e_arg_b, e_arg_d, e_arg_s, e_cl3, e_cl2, e_cl1, e_cl, e_rv_d, e_rv_o, e_rv_b, e_df2, e_df_r, e_df_n, e_df, e_om, e_r_d, e_r_f, e_r_s, e_r_b, e_ff_n, e_ff_c, e_ff_b, e_ff_r, e_fg, e_fr1, e_fr, e_nm, e_im, e_it2, e_it1, e_it, e_i_l, e_i_t, e_lc3, e_lc1, e_lc, e_io1, e_io, e_iv2, e_iv_d, e_iv_o, e_iv, e_ch6, e_ch5, e_ch4t, e_ch4f, e_ch3, e_ch2, e_ch1, e_ch, e_so_d, e_so_f, e_pr3, e_pr2, e_pr1, e_pr, e_sl4, e_sl3, e_sl2, e_sl1, e_sl, e_nop, e_pt1, e_pt, o_sl_l, o_sl_t, e_yes, e_wp, e_wp0, e_wp1, e_re0, e_re1, e_kd_d, e_kd_o, e_kd_b, e_kd_n, o_add_i, o_add_s, o_add_l, o_add_t, o_sub, o_mul, o_div, o_mod, o_pow, o_lt_i, o_lt_s, o_le_i, o_le_s, o_gt_i, o_ge_i, o_ix_l, o_ix_t, o_ixK, o_len_l, o_len_t, o_len_s, o_int_i, o_int_b, o_abs, o_max, o_min, o_lst_l, o_lst_t, o_tup_l, o_tup_t, List.map_cons, List.map_nil, List.append_nil, List.nil_append, List.cons_append, List.length_cons, List.length_nil, List.getElem?_cons_zero, List.getElem?_cons_succ, List.set_cons_zero, List.set_cons_succ, if_true, if_false, List.replicate_zero, List.replicate_succ, List.length_set, Bool.not_true, Bool.not_false, decide_true, decide_false, true_and, and_true, Nat.reduceAdd, Nat.reduceLT, Nat.reduceLeDiff, reduceIte, reduceCtorEq, isi_str, hl, h1, h5]
    · have dn : nameD (.str z) = false := by
        show (decide (1 ≤ z.length ∧ z.length ≤ 5) && z.cps.toList.all letB) = _
        rw [decide_eq_false (by omega), Bool.false_and]
      rw [dn]
      simp only [e_op4, e_op3, e_op2, e_op1, e_op, e_un2, e_un1, e_un, e_seq_nx, e_seq_rt, e_seq_bk, e_seq_ct, e_seq, e_nx, e_bk, e_ct, e_put, e_set1, e_set, e_drop1, e_drop, e_ret1, e_ret, e_retN, e_if_t, e_if_f, e_ifS, e_ifE, e_test1, e_test, e_not1, e_not, e_and_t, e_and_f, e_and, e_or_t, e_or_f, e_or, e_andV_t, e_andV_f, e_andV, e_orV_t, e_orV_f, e_orV, e_notV1, e_notV, e_nil, e_cons2, e_cons1, e_cons, e_tk2, e_tk1, e_tk0, e_tk, e_tup2, e_tup1, e_tup, e_lst2, e_lst1, e_lst, e_da1, e_da0, e_da, e_cb2, e_cb1, e_cb, e_v_d, e_v_o, e_v_b, e_v, e_c, e_h_d, e_h_f, e_h_s, e_h_b, e_at1, e_at, e_lm, e_d_d, e_d_f, e_d_s, e_d_b, e_ts, e_t_d, e_t_f, e_t_s, e_p_d, e_p_l, e_p_t, e_put_d, e_put_f, e_put_b, e_bx1, e_bx, e_ap2, e_ap1, e_ap0, e_apS, e_ap, e_arg2, e_arg1, e_arg0, e_arg_b, e_arg_d, e_arg_s, e_cl3, e_cl2, e_cl1, e_cl, e_rv_d, e_rv_o, e_rv_b, e_df2, e_df_r, e_df_n, e_df, e_om, e_r_d, e_r_f, e_r_s, e_r_b, e_ff_n, e_ff_c, e_ff_b, e_ff_r, e_fg, e_fr1, e_fr, e_nm, e_im, e_it2, e_it1, e_it, e_i_l, e_i_t, e_lc3, e_lc1, e_lc, e_io1, e_io, e_iv2, e_iv_d, e_iv_o, e_iv, e_ch6, e_ch5, e_ch4t, e_ch4f, e_ch3, e_ch2, e_ch1, e_ch, e_so_d, e_so_f, e_pr3, e_pr2, e_pr1, e_pr, e_sl4, e_sl3, e_sl2, e_sl1, e_sl, e_nop, e_pt1, e_pt, o_sl_l, o_sl_t, e_yes, e_wp, e_wp0, e_wp1, e_re0, e_re1, e_kd_d, e_kd_o, e_kd_b, e_kd_n, o_add_i, o_add_s, o_add_l, o_add_t, o_sub, o_mul, o_div, o_mod, o_pow, o_lt_i, o_lt_s, o_le_i, o_le_s, o_gt_i, o_ge_i, o_ix_l, o_ix_t, o_ixK, o_len_l, o_len_t, o_len_s, o_int_i, o_int_b, o_abs, o_max, o_min, o_lst_l, o_lst_t, o_tup_l, o_tup_t, List.map_cons, List.map_nil, List.append_nil, List.nil_append, List.cons_append, List.length_cons, List.length_nil, List.getElem?_cons_zero, List.getElem?_cons_succ, List.set_cons_zero, List.set_cons_succ, if_true, if_false, List.replicate_zero, List.replicate_succ, List.length_set, Bool.not_true, Bool.not_false, decide_true, decide_false, true_and, and_true, Nat.reduceAdd, Nat.reduceLT, Nat.reduceLeDiff, reduceIte, reduceCtorEq, isi_str, hl, h1]
  · have e1 := isi_not (x := x) (fun z e => hs ⟨z, e⟩) hd
    have dn : nameD x = false := by
      cases x with
      | str z => exact absurd ⟨z, rfl⟩ hs
      | _ => rfl
    rw [dn]
    simp only [e_op4, e_op3, e_op2, e_op1, e_op, e_un2, e_un1, e_un, e_seq_nx, e_seq_rt, e_seq_bk, e_seq_ct, e_seq, e_nx, e_bk, e_ct, e_put, e_set1, e_set, e_drop1, e_drop, e_ret1, e_ret, e_retN, e_if_t, e_if_f, e_ifS, e_ifE, e_test1, e_test, e_not1, e_not, e_and_t, e_and_f, e_and, e_or_t, e_or_f, e_or, e_andV_t, e_andV_f, e_andV, e_orV_t, e_orV_f, e_orV, e_notV1, e_notV, e_nil, e_cons2, e_cons1, e_cons, e_tk2, e_tk1, e_tk0, e_tk, e_tup2, e_tup1, e_tup, e_lst2, e_lst1, e_lst, e_da1, e_da0, e_da, e_cb2, e_cb1, e_cb, e_v_d, e_v_o, e_v_b, e_v, e_c, e_h_d, e_h_f, e_h_s, e_h_b, e_at1, e_at, e_lm, e_d_d, e_d_f, e_d_s, e_d_b, e_ts, e_t_d, e_t_f, e_t_s, e_p_d, e_p_l, e_p_t, e_put_d, e_put_f, e_put_b, e_bx1, e_bx, e_ap2, e_ap1, e_ap0, e_apS, e_ap, e_arg2, e_arg1, e_arg0, e_arg_b, e_arg_d, e_arg_s, e_cl3, e_cl2, e_cl1, e_cl, e_rv_d, e_rv_o, e_rv_b, e_df2, e_df_r, e_df_n, e_df, e_om, e_r_d, e_r_f, e_r_s, e_r_b, e_ff_n, e_ff_c, e_ff_b, e_ff_r, e_fg, e_fr1, e_fr, e_nm, e_im, e_it2, e_it1, e_it, e_i_l, e_i_t, e_lc3, e_lc1, e_lc, e_io1, e_io, e_iv2, e_iv_d, e_iv_o, e_iv, e_ch6, e_ch5, e_ch4t, e_ch4f, e_ch3, e_ch2, e_ch1, e_ch, e_so_d, e_so_f, e_pr3, e_pr2, e_pr1, e_pr, e_sl4, e_sl3, e_sl2, e_sl1, e_sl, e_nop, e_pt1, e_pt, o_sl_l, o_sl_t, e_yes, e_wp, e_wp0, e_wp1, e_re0, e_re1, e_kd_d, e_kd_o, e_kd_b, e_kd_n, o_add_i, o_add_s, o_add_l, o_add_t, o_sub, o_mul, o_div, o_mod, o_pow, o_lt_i, o_lt_s, o_le_i, o_le_s, o_gt_i, o_ge_i, o_ix_l, o_ix_t, o_ixK, o_len_l, o_len_t, o_len_s, o_int_i, o_int_b, o_abs, o_max, o_min, o_lst_l, o_lst_t, o_tup_l, o_tup_t, List.map_cons, List.map_nil, List.append_nil, List.nil_append, List.cons_append, List.length_cons, List.length_nil, List.getElem?_cons_zero, List.getElem?_cons_succ, List.set_cons_zero, List.set_cons_succ, if_true, if_false, List.replicate_zero, List.replicate_succ, List.length_set, Bool.not_true, Bool.not_false, decide_true, decide_false, true_and, and_true, Nat.reduceAdd, Nat.reduceLT, Nat.reduceLeDiff, reduceIte, reduceCtorEq, e1]
end XN

set_option maxRecDepth 100000
set_option maxHeartbeats 4000000
/-! what is a lot -/
namespace XN
open PySem PySem.Spec PyProof.Rows PySem.W L2 Evl XD

def ltS (a b : Str) : Bool := decide (a.cps.toList < b.cps.toList)
def ascB : List Str → Bool
  | a :: b :: r => ltS a b && ascB (b :: r)
  | _ => true
def lotB : PyData → Bool
  | .tuple xs => xs.all nameD && ascB (strsAll xs)
  | _ => false
def Clean (x : PyData) : Prop := (∀ ys, x ≠ .dict ys) ∧ ∀ z, x = .str z → z.length ≤ 100000
theorem strs_all_of {xs : List PyData} (h : xs.all nameD = true) : xs = strsD (strsAll xs) := by
  induction xs with
  | nil => rfl
  | cons x xs ih =>
    rw [List.all_cons, Bool.and_eq_true] at h
    cases x with
    | str z =>
      show PyData.str z :: xs = PyData.str z :: strsD (strsAll xs)
      rw [← ih h.2]
    | _ => cases h.1
theorem isiT_not {x : PyData} (h : ∀ ys, x ≠ .tuple ys) (hd : ∀ ys, x ≠ .dict ys) : opIsi "tuple" x = some (.d (.bool false)) := by
  cases x with
  | str z => exact congrArg _ (show kitB "str" "tuple" = some false by decide +kernel)
  | none => exact congrArg _ (show kitB "NoneType" "tuple" = some false by decide +kernel)
  | bool b => exact congrArg _ (show kitB "bool" "tuple" = some false by decide +kernel)
  | int b => exact congrArg _ (show kitB "int" "tuple" = some false by decide +kernel)
  | list b => exact congrArg _ (show kitB "list" "tuple" = some false by decide +kernel)
  | tuple b => exact absurd rfl (h b)
  | dict b => exact absurd rfl (hd b)
theorem isiT_yes (xs : List PyData) : opIsi "tuple" (.tuple xs) = some (.d (.bool true)) := rfl
theorem lot_loop1 {a0 o2 : Option SV} {b : List Int} : ∀ (xs : List PyData) (o : Option SV), (∀ x ∈ xs, Clean x) → ∃ o1, forFold (dName 1) (dIfS (dNot (dTest (dCall f_is_name (dCons (dV 1) dNil)))) (dRet (dC (.bool false))) dNx) xs ⟨[a0, o, o2], b⟩ =
    some (if xs.all nameD = true then OutS.nx else .rt (.d (.bool false)), ⟨[a0, o1, o2], b⟩)
  | [], o, _ => ⟨o, rfl⟩
  | x :: xs, o, h => by
    have c1 : 1 < [a0, o, o2].length := by show 1 < 3; decide
    have e1 : f_is_name [.d x] b = _ := f_is_name_is (h x (List.mem_cons_self ..)).1 (h x (List.mem_cons_self ..)).2
    rw [for_cons]
    cases hx : nameD x with
    | true =>
      rw [hx] at e1
      obtain ⟨o1, ih⟩ := lot_loop1 (a0 := a0) (o2 := o2) (b := b) xs (some (.d x)) fun y m => h y (List.mem_cons_of_mem _ m)
      refine ⟨o1, ?_⟩
      simp only [e_op4, e_op3, e_op2, e_op1, e_op, e_un2, e_un1, e_un, e_seq_nx, e_seq_rt, e_seq_bk, e_seq_ct, e_seq, e_nx, e_bk, e_ct, e_put, e_set1, e_set, e_drop1, e_drop, e_ret1, e_ret, e_retN, e_if_t, e_if_f, e_ifS, e_ifE, e_test1, e_test, e_not1, e_not, e_and_t, e_and_f, e_and, e_or_t, e_or_f, e_or, e_andV_t, e_andV_f, e_andV, e_orV_t, e_orV_f, e_orV, e_notV1, e_notV, e_nil, e_cons2, e_cons1, e_cons, e_tk2, e_tk1, e_tk0, e_tk, e_tup2, e_tup1, e_tup, e_lst2, e_lst1, e_lst, e_da1, e_da0, e_da, e_cb2, e_cb1, e_cb, e_v_d, e_v_o, e_v_b, e_v, e_c, e_h_d, e_h_f, e_h_s, e_h_b, e_at1, e_at, e_lm, e_d_d, e_d_f, e_d_s, e_d_b, e_ts, e_t_d, e_t_f, e_t_s, e_p_d, e_p_l, e_p_t, e_put_d, e_put_f, e_put_b, e_bx1, e_bx, e_ap2, e_ap1, e_ap0, e_apS, e_ap, e_arg2, e_arg1, e_arg0, e_arg_b, e_arg_d, e_arg_s, e_cl3, e_cl2, e_cl1, e_cl, e_rv_d, e_rv_o, e_rv_b, e_df2, e_df_r, e_df_n, e_df, e_om, e_r_d, e_r_f, e_r_s, e_r_b, e_ff_n, e_ff_c, e_ff_b, e_ff_r, e_fg, e_fr1, e_fr, e_nm, e_im, e_it2, e_it1, e_it, e_i_l, e_i_t, e_lc3, e_lc1, e_lc, e_io1, e_io, e_iv2, e_iv_d, e_iv_o, e_iv, e_ch6, e_ch5, e_ch4t, e_ch4f, e_ch3, e_ch2, e_ch1, e_ch, e_so_d, e_so_f, e_pr3, e_pr2, e_pr1, e_pr, e_sl4, e_sl3, e_sl2, e_sl1, e_sl, e_nop, e_pt1, e_pt, o_sl_l, o_sl_t, e_yes, e_wp, e_wp0, e_wp1, e_re0, e_re1, e_kd_d, e_kd_o, e_kd_b, e_kd_n, o_add_i, o_add_s, o_add_l, o_add_t, o_sub, o_mul, o_div, o_mod, o_pow, o_lt_i, o_lt_s, o_le_i, o_le_s, o_gt_i, o_ge_i, o_ix_l, o_ix_t, o_ixK, o_len_l, o_len_t, o_len_s, o_int_i, o_int_b, o_abs, o_max, o_min, o_lst_l, o_lst_t, o_tup_l, o_tup_t, List.map_cons, List.map_nil, List.append_nil, List.nil_append, List.cons_append, List.length_cons, List.length_nil, List.getElem?_cons_zero, List.getElem?_cons_succ, List.set_cons_zero, List.set_cons_succ, if_true, if_false, List.replicate_zero, List.replicate_succ, List.length_set, Bool.not_true, Bool.not_false, decide_true, decide_false, true_and, and_true, Nat.reduceAdd, Nat.reduceLT, Nat.reduceLeDiff, reduceIte, reduceCtorEq, c1, e1]
      rw [List.all_cons, hx, Bool.true_and]
      exact ih
    | false =>
      rw [hx] at e1
      refine ⟨some (.d x), ?_⟩
      simp only [e_op4, e_op3, e_op2, e_op1, e_op, e_un2, e_un1, e_un, e_seq_nx, e_seq_rt, e_seq_bk, e_seq_ct, e_seq, e_nx, e_bk, e_ct, e_put, e_set1, e_set, e_drop1, e_drop, e_ret1, e_ret, e_retN, e_if_t, e_if_f, e_ifS, e_ifE, e_test1, e_test, e_not1, e_not, e_and_t, e_and_f, e_and, e_or_t, e_or_f, e_or, e_andV_t, e_andV_f, e_andV, e_orV_t, e_orV_f, e_orV, e_notV1, e_notV, e_nil, e_cons2, e_cons1, e_cons, e_tk2, e_tk1, e_tk0, e_tk, e_tup2, e_tup1, e_tup, e_lst2, e_lst1, e_lst, e_da1, e_da0, e_da, e_cb2, e_cb1, e_cb, e_v_d, e_v_o, e_v_b, e_v, e_c, e_h_d, e_h_f, e_h_s, e_h_b, e_at1, e_at, e_lm, e_d_d, e_d_f, e_d_s, e_d_b, e_ts, e_t_d, e_t_f, e_t_s, e_p_d, e_p_l, e_p_t, e_put_d, e_put_f, e_put_b, e_bx1, e_bx, e_ap2, e_ap1, e_ap0, e_apS, e_ap, e_arg2, e_arg1, e_arg0, e_arg_b, e_arg_d, e_arg_s, e_cl3, e_cl2, e_cl1, e_cl, e_rv_d, e_rv_o, e_rv_b, e_df2, e_df_r, e_df_n, e_df, e_om, e_r_d, e_r_f, e_r_s, e_r_b, e_ff_n, e_ff_c, e_ff_b, e_ff_r, e_fg, e_fr1, e_fr, e_nm, e_im, e_it2, e_it1, e_it, e_i_l, e_i_t, e_lc3, e_lc1, e_lc, e_io1, e_io, e_iv2, e_iv_d, e_iv_o, e_iv, e_ch6, e_ch5, e_ch4t, e_ch4f, e_ch3, e_ch2, e_ch1, e_ch, e_so_d, e_so_f, e_pr3, e_pr2, e_pr1, e_pr, e_sl4, e_sl3, e_sl2, e_sl1, e_sl, e_nop, e_pt1, e_pt, o_sl_l, o_sl_t, e_yes, e_wp, e_wp0, e_wp1, e_re0, e_re1, e_kd_d, e_kd_o, e_kd_b, e_kd_n, o_add_i, o_add_s, o_add_l, o_add_t, o_sub, o_mul, o_div, o_mod, o_pow, o_lt_i, o_lt_s, o_le_i, o_le_s, o_gt_i, o_ge_i, o_ix_l, o_ix_t, o_ixK, o_len_l, o_len_t, o_len_s, o_int_i, o_int_b, o_abs, o_max, o_min, o_lst_l, o_lst_t, o_tup_l, o_tup_t, List.map_cons, List.map_nil, List.append_nil, List.nil_append, List.cons_append, List.length_cons, List.length_nil, List.getElem?_cons_zero, List.getElem?_cons_succ, List.set_cons_zero, List.set_cons_succ, if_true, if_false, List.replicate_zero, List.replicate_succ, List.length_set, Bool.not_true, Bool.not_false, decide_true, decide_false, true_and, and_true, Nat.reduceAdd, Nat.reduceLT, Nat.reduceLeDiff, reduceIte, reduceCtorEq, c1, e1]
      rw [List.all_cons, hx, Bool.false_and]
      rfl
theorem at_nat {α : Type} {xs : List α} {k : Nat} {x : α} (h : xs[k]? = some x) : atI xs (k : Int) = some x := by
  have hk : k < xs.length := (List.getElem?_eq_some_iff.mp h).1
  unfold atI ixN
  rw [if_pos (by omega), if_pos (by omega)]
  show (some (Int.toNat (k : Int))).bind _ = _
  rw [Int.toNat_natCast, Option.bind_some]
  exact h
theorem strs_get {l : List Str} {k : Nat} {z : Str} (h : l[k]? = some z) : (strsD l)[k]? = some (.str z) := by
  show (l.map PyData.str)[k]? = _
  rw [List.getElem?_map, h]
  rfl
theorem rng_from (n : Nat) : rngI 1 n = (List.range' 1 n).map fun (i : Nat) => PyData.int (i : Int) := by
  unfold rngI
  rw [List.range'_eq_map_range, List.map_map]
  refine List.map_congr_left fun i _ => ?_
  show PyData.int (1 + (i : Int)) = PyData.int (((1 + i : Nat)) : Int)
  congr 1
theorem lot_loop2 {l : List Str} {o1 : Option SV} {b : List Int} : ∀ (m k : Nat) (o : Option SV), 1 ≤ k → l.length ≤ k + m ∧ (0 < m → k + m = l.length) → ∃ o2, forFold (dName 2) (dIfS (dTest (dOp opLe (dOp opIx (dV 0) (dV 2)) (dOp opIx (dV 0) (dOp opSub (dV 2) (dC (.int 1)))))) (dRet (dC (.bool false))) dNx)
    ((List.range' k m).map fun (i : Nat) => PyData.int (i : Int)) ⟨[some (.d (.tuple (strsD l))), o1, o], b⟩ = some (if ascB (l.drop (k - 1)) = true then OutS.nx else .rt (.d (.bool false)), ⟨[some (.d (.tuple (strsD l))), o1, o2], b⟩)
  | 0, k, o, h1, hk => by
    refine ⟨o, ?_⟩
    have e : ascB (l.drop (k - 1)) = true := by
      have hl : (l.drop (k - 1)).length ≤ 1 := by
        rw [List.length_drop]
        omega
      match h : l.drop (k - 1) with
      | [] => rfl
      | [_] => rfl
      | _ :: _ :: _ =>
        rw [h, List.length_cons, List.length_cons] at hl
        omega
    rw [e]
    rfl
  | m + 1, k, o, h1, hk => by
    have hk := hk.2 (Nat.succ_pos m)
    have ha : k - 1 < l.length := by omega
    have hb : k < l.length := by omega
    have ga := List.getElem?_eq_getElem ha
    have gb := List.getElem?_eq_getElem hb
    have dr : l.drop (k - 1) = l[k - 1] :: l[k] :: l.drop (k + 1) := by
      rw [List.drop_eq_getElem_cons ha]
      have e : k - 1 + 1 = k := by omega
      rw [e, List.drop_eq_getElem_cons hb]
    have dk : l.drop k = l[k] :: l.drop (k + 1) := List.drop_eq_getElem_cons hb
    have i1 : atI (strsD l) (k : Int) = some (.str l[k]) := at_nat (strs_get gb)
    have i2 : atI (strsD l) ((k : Int) - 1) = some (.str l[k - 1]) := by
      have e : (k : Int) - 1 = ((k - 1 : Nat) : Int) := by omega
      rw [e]
      exact at_nat (strs_get ga)
    have c2 : 2 < [some (SV.d (.tuple (strsD l))), o1, o].length := by show 2 < 3; decide
    have ea : ascB (l.drop (k - 1)) = (ltS l[k - 1] l[k] && ascB (l.drop k)) := by
      rw [dr, dk]
      rfl
    rw [ea, List.range'_succ, List.map_cons, for_cons]
    cases hc : ltS l[k - 1] l[k] with
    | true =>
      have hc' : decide ((l[k - 1]).cps.toList < (l[k]).cps.toList) = true := hc
      obtain ⟨o2, ih⟩ := lot_loop2 (l := l) (o1 := o1) (b := b) m (k + 1) (some (.d (.int (k : Int)))) (by omega) (by omega)
      refine ⟨o2, ?_⟩
      simp only [e_op4, e_op3, e_op2, e_op1, e_op, e_un2, e_un1, e_un, e_seq_nx, e_seq_rt, e_seq_bk, e_seq_ct, e_seq, e_nx, e_bk, e_ct, e_put, e_set1, e_set, e_drop1, e_drop, e_ret1, e_ret, e_retN, e_if_t, e_if_f, e_ifS, e_ifE, e_test1, e_test, e_not1, e_not, e_and_t, e_and_f, e_and, e_or_t, e_or_f, e_or, e_andV_t, e_andV_f, e_andV, e_orV_t, e_orV_f, e_orV, e_notV1, e_notV, e_nil, e_cons2, e_cons1, e_cons, e_tk2, e_tk1, e_tk0, e_tk, e_tup2, e_tup1, e_tup, e_lst2, e_lst1, e_lst, e_da1, e_da0, e_da, e_cb2, e_cb1, e_cb, e_v_d, e_v_o, e_v_b, e_v, e_c, e_h_d, e_h_f, e_h_s, e_h_b, e_at1, e_at, e_lm, e_d_d, e_d_f, e_d_s, e_d_b, e_ts, e_t_d, e_t_f, e_t_s, e_p_d, e_p_l, e_p_t, e_put_d, e_put_f, e_put_b, e_bx1, e_bx, e_ap2, e_ap1, e_ap0, e_apS, e_ap, e_arg2, e_arg1, e_arg0, e_arg_b, e_arg_d, e_arg_s, e_cl3, e_cl2, e_cl1, e_cl, e_rv_d, e_rv_o, e_rv_b, e_df2, e_df_r, e_df_n, e_df, e_om, e_r_d, e_r_f, e_r_s, e_r_b, e_ff_n, e_ff_c, e_ff_b, e_ff_r, e_fg, e_fr1, e_fr, e_nm, e_im, e_it2, e_it1, e_it, e_i_l, e_i_t, e_lc3, e_lc1, e_lc, e_io1, e_io, e_iv2, e_iv_d, e_iv_o, e_iv, e_ch6, e_ch5, e_ch4t, e_ch4f, e_ch3, e_ch2, e_ch1, e_ch, e_so_d, e_so_f, e_pr3, e_pr2, e_pr1, e_pr, e_sl4, e_sl3, e_sl2, e_sl1, e_sl, e_nop, e_pt1, e_pt, o_sl_l, o_sl_t, e_yes, e_wp, e_wp0, e_wp1, e_re0, e_re1, e_kd_d, e_kd_o, e_kd_b, e_kd_n, o_add_i, o_add_s, o_add_l, o_add_t, o_sub, o_mul, o_div, o_mod, o_pow, o_lt_i, o_lt_s, o_le_i, o_le_s, o_gt_i, o_ge_i, o_ix_l, o_ix_t, o_ixK, o_len_l, o_len_t, o_len_s, o_int_i, o_int_b, o_abs, o_max, o_min, o_lst_l, o_lst_t, o_tup_l, o_tup_t, List.map_cons, List.map_nil, List.append_nil, List.nil_append, List.cons_append, List.length_cons, List.length_nil, List.getElem?_cons_zero, List.getElem?_cons_succ, List.set_cons_zero, List.set_cons_succ, if_true, if_false, List.replicate_zero, List.replicate_succ, List.length_set, Bool.not_true, Bool.not_false, decide_true, decide_false, true_and, and_true, Nat.reduceAdd, Nat.reduceLT, Nat.reduceLeDiff, reduceIte, reduceCtorEq, c2, i1, i2, hc']
      rw [Bool.true_and]
      exact ih
    | false =>
      have hc' : decide ((l[k - 1]).cps.toList < (l[k]).cps.toList) = false := hc
      refine ⟨some (.d (.int (k : Int))), ?_⟩
      simp only [e_op4, e_op3, e_op2, e_op1, e_op, e_un2, e_un1, e_un, e_seq_nx, e_seq_rt, e_seq_bk, e_seq_ct, e_seq, e_nx, e_bk, e_ct, e_put, e_set1, e_set, e_drop1, e_drop, e_ret1, e_ret, e_retN, e_if_t, e_if_f, e_ifS, e_ifE, e_test1, e_test, e_not1, e_not, e_and_t, e_and_f, e_and, e_or_t, e_or_f, e_or, e_andV_t, e_andV_f, e_andV, e_orV_t, e_orV_f, e_orV, e_notV1, e_notV, e_nil, e_cons2, e_cons1, e_cons, e_tk2, e_tk1, e_tk0, e_tk, e_tup2, e_tup1, e_tup, e_lst2, e_lst1, e_lst, e_da1, e_da0, e_da, e_cb2, e_cb1, e_cb, e_v_d, e_v_o, e_v_b, e_v, e_c, e_h_d, e_h_f, e_h_s, e_h_b, e_at1, e_at, e_lm, e_d_d, e_d_f, e_d_s, e_d_b, e_ts, e_t_d, e_t_f, e_t_s, e_p_d, e_p_l, e_p_t, e_put_d, e_put_f, e_put_b, e_bx1, e_bx, e_ap2, e_ap1, e_ap0, e_apS, e_ap, e_arg2, e_arg1, e_arg0, e_arg_b, e_arg_d, e_arg_s, e_cl3, e_cl2, e_cl1, e_cl, e_rv_d, e_rv_o, e_rv_b, e_df2, e_df_r, e_df_n, e_df, e_om, e_r_d, e_r_f, e_r_s, e_r_b, e_ff_n, e_ff_c, e_ff_b, e_ff_r, e_fg, e_fr1, e_fr, e_nm, e_im, e_it2, e_it1, e_it, e_i_l, e_i_t, e_lc3, e_lc1, e_lc, e_io1, e_io, e_iv2, e_iv_d, e_iv_o, e_iv, e_ch6, e_ch5, e_ch4t, e_ch4f, e_ch3, e_ch2, e_ch1, e_ch, e_so_d, e_so_f, e_pr3, e_pr2, e_pr1, e_pr, e_sl4, e_sl3, e_sl2, e_sl1, e_sl, e_nop, e_pt1, e_pt, o_sl_l, o_sl_t, e_yes, e_wp, e_wp0, e_wp1, e_re0, e_re1, e_kd_d, e_kd_o, e_kd_b, e_kd_n, o_add_i, o_add_s, o_add_l, o_add_t, o_sub, o_mul, o_div, o_mod, o_pow, o_lt_i, o_lt_s, o_le_i, o_le_s, o_gt_i, o_ge_i, o_ix_l, o_ix_t, o_ixK, o_len_l, o_len_t, o_len_s, o_int_i, o_int_b, o_abs, o_max, o_min, o_lst_l, o_lst_t, o_tup_l, o_tup_t, List.map_cons, List.map_nil, List.append_nil, List.nil_append, List.cons_append, List.length_cons, List.length_nil, List.getElem?_cons_zero, List.getElem?_cons_succ, List.set_cons_zero, List.set_cons_succ, if_true, if_false, List.replicate_zero, List.replicate_succ, List.length_set, Bool.not_true, Bool.not_false, decide_true, decide_false, true_and, and_true, Nat.reduceAdd, Nat.reduceLT, Nat.reduceLeDiff, reduceIte, reduceCtorEq, c2, i1, i2, hc']
      rw [Bool.false_and]
      rfl
theorem rng2_eq {fa : DA} {s s1 : SS} {a c : Int} (h : fa s = some ([.d (.int a), .d (.int c)], s1)) (hc : -1000000000 < a ∧ a < 1000000000 ∧ -1000000000 < c ∧ c < 1000000000) : dRng2 fa s = some (rngI a (c - a).toNat, s1) := by
  unfold dRng2
  rw [h]
  exact if_pos hc
theorem f_is_lot_is {x : PyData} {b : List Int} (hd : ∀ ys, x ≠ .dict ys) (hx : ∀ xs, x = .tuple xs → xs.length < 100000 ∧ ∀ y ∈ xs, Clean y) : f_is_lot [.d x] b = some (.d (.bool (lotB x)), b) := by
  unfold f_is_lot g_is_lot
  by_cases ht : ∃ xs, x = .tuple xs
  · obtain ⟨xs, rfl⟩ := ht
    obtain ⟨few, cl⟩ := hx xs rfl
    obtain ⟨o1, e1⟩ := lot_loop1 (a0 := some (.d (.tuple xs))) (o2 := none) (b := b) xs none cl
    cases hn : xs.all nameD with
    | false =>
      rw [hn] at e1
      have e : lotB (.tuple xs) = false := by
        show (xs.all nameD && _) = false
        rw [hn, Bool.false_and]
      rw [e]
      simp only [e_op4, e_op3, e_op2, e_op1, e_op, e_un2, e_un1, e_un, e_seq_nx, e_seq_rt, e_seq_bk, e_seq_ct, e_seq, e_nx, e_bk, e_ct, e_put, e_set1, e_set, e_drop1, e_drop, e_ret1, e_ret, e_retN, e_if_t, e_if_f, e_ifS, e_ifE, e_test1, e_test, e_not1, e_not, e_and_t, e_and_f, e_and, e_or_t, e_or_f, e_or, e_andV_t, e_andV_f, e_andV, e_orV_t, e_orV_f, e_orV, e_notV1, e_notV, e_nil, e_cons2, e_cons1, e_cons, e_tk2, e_tk1, e_tk0, e_tk, e_tup2, e_tup1, e_tup, e_lst2, e_lst1, e_lst, e_da1, e_da0, e_da, e_cb2, e_cb1, e_cb, e_v_d, e_v_o, e_v_b, e_v, e_c, e_h_d, e_h_f, e_h_s, e_h_b, e_at1, e_at, e_lm, e_d_d, e_d_f, e_d_s, e_d_b, e_ts, e_t_d, e_t_f, e_t_s, e_p_d, e_p_l, e_p_t, e_put_d, e_put_f, e_put_b, e_bx1, e_bx, e_ap2, e_ap1, e_ap0, e_apS, e_ap, e_arg2, e_arg1, e_arg0, e_arg_b, e_arg_d, e_arg_s, e_cl3, e_cl2, e_cl1, e_cl, e_rv_d, e_rv_o, e_rv_b, e_df2, e_df_r, e_df_n, e_df, e_om, e_r_d, e_r_f, e_r_s, e_r_b, e_ff_n, e_ff_c, e_ff_b, e_ff_r, e_fg, e_fr1, e_fr, e_nm, e_im, e_it2, e_it1, e_it, e_i_l, e_i_t, e_lc3, e_lc1, e_lc, e_io1, e_io, e_iv2, e_iv_d, e_iv_o, e_iv, e_ch6, e_ch5, e_ch4t, e_ch4f, e_ch3, e_ch2, e_ch1, e_ch, e_so_d, e_so_f, e_pr3, e_pr2, e_pr1, e_pr, e_sl4, e_sl3, e_sl2, e_sl1, e_sl, e_nop, e_pt1, e_pt, o_sl_l, o_sl_t, e_yes, e_wp, e_wp0, e_wp1, e_re0, e_re1, e_kd_d, e_kd_o, e_kd_b, e_kd_n, o_add_i, o_add_s, o_add_l, o_add_t, o_sub, o_mul, o_div, o_mod, o_pow, o_lt_i, o_lt_s, o_le_i, o_le_s, o_gt_i, o_ge_i, o_ix_l, o_ix_t, o_ixK, o_len_l, o_len_t, o_len_s, o_int_i, o_int_b, o_abs, o_max, o_min, o_lst_l, o_lst_t, o_tup_l, o_tup_t, List.map_cons, List.map_nil, List.append_nil, List.nil_append, List.cons_append, List.length_cons, List.length_nil, List.getElem?_cons_zero, List.getElem?_cons_succ, List.set_cons_zero, List.set_cons_succ, if_true, if_false, List.replicate_zero, List.replicate_succ, List.length_set, Bool.not_true, Bool.not_false, decide_true, decide_false, true_and, and_true, Nat.reduceAdd, Nat.reduceLT, Nat.reduceLeDiff, reduceIte, reduceCtorEq, isiT_yes, e1]
    | true =>
      rw [hn] at e1
      have es := strs_all_of hn
      have e : lotB (.tuple xs) = ascB (strsAll xs) := by
        show (xs.all nameD && _) = _
        rw [hn, Bool.true_and]
      rw [e]
      generalize strsAll xs = l at es
      subst es
      have hl : (strsD l).length = l.length := List.length_map _
      have rg : dRng2 (dCons (dC (.int 1)) (dCons (dCB opLen (dCons (dV 0) dNil)) dNil)) ⟨[some (.d (.tuple (strsD l))), o1, none], b⟩ = some ((List.range' 1 (l.length - 1)).map fun (i : Nat) => PyData.int (i : Int), ⟨[some (.d (.tuple (strsD l))), o1, none], b⟩) := by
        have h1 : dCons (dC (.int 1)) (dCons (dCB opLen (dCons (dV 0) dNil)) dNil) ⟨[some (.d (.tuple (strsD l))), o1, none], b⟩ = some ([.d (.int 1), .d (.int ((strsD l).length : Nat))], ⟨[some (.d (.tuple (strsD l))), o1, none], b⟩) := by simp only [e_op4, e_op3, e_op2, e_op1, e_op, e_un2, e_un1, e_un, e_seq_nx, e_seq_rt, e_seq_bk, e_seq_ct, e_seq, e_nx, e_bk, e_ct, e_put, e_set1, e_set, e_drop1, e_drop, e_ret1, e_ret, e_retN, e_if_t, e_if_f, e_ifS, e_ifE, e_test1, e_test, e_not1, e_not, e_and_t, e_and_f, e_and, e_or_t, e_or_f, e_or, e_andV_t, e_andV_f, e_andV, e_orV_t, e_orV_f, e_orV, e_notV1, e_notV, e_nil, e_cons2, e_cons1, e_cons, e_tk2, e_tk1, e_tk0, e_tk, e_tup2, e_tup1, e_tup, e_lst2, e_lst1, e_lst, e_da1, e_da0, e_da, e_cb2, e_cb1, e_cb, e_v_d, e_v_o, e_v_b, e_v, e_c, e_h_d, e_h_f, e_h_s, e_h_b, e_at1, e_at, e_lm, e_d_d, e_d_f, e_d_s, e_d_b, e_ts, e_t_d, e_t_f, e_t_s, e_p_d, e_p_l, e_p_t, e_put_d, e_put_f, e_put_b, e_bx1, e_bx, e_ap2, e_ap1, e_ap0, e_apS, e_ap, e_arg2, e_arg1, e_arg0, e_arg_b, e_arg_d, e_arg_s, e_cl3, e_cl2, e_cl1, e_cl, e_rv_d, e_rv_o, e_rv_b, e_df2, e_df_r, e_df_n, e_df, e_om, e_r_d, e_r_f, e_r_s, e_r_b, e_ff_n, e_ff_c, e_ff_b, e_ff_r, e_fg, e_fr1, e_fr, e_nm, e_im, e_it2, e_it1, e_it, e_i_l, e_i_t, e_lc3, e_lc1, e_lc, e_io1, e_io, e_iv2, e_iv_d, e_iv_o, e_iv, e_ch6, e_ch5, e_ch4t, e_ch4f, e_ch3, e_ch2, e_ch1, e_ch, e_so_d, e_so_f, e_pr3, e_pr2, e_pr1, e_pr, e_sl4, e_sl3, e_sl2, e_sl1, e_sl, e_nop, e_pt1, e_pt, o_sl_l, o_sl_t, e_yes, e_wp, e_wp0, e_wp1, e_re0, e_re1, e_kd_d, e_kd_o, e_kd_b, e_kd_n, o_add_i, o_add_s, o_add_l, o_add_t, o_sub, o_mul, o_div, o_mod, o_pow, o_lt_i, o_lt_s, o_le_i, o_le_s, o_gt_i, o_ge_i, o_ix_l, o_ix_t, o_ixK, o_len_l, o_len_t, o_len_s, o_int_i, o_int_b, o_abs, o_max, o_min, o_lst_l, o_lst_t, o_tup_l, o_tup_t, List.map_cons, List.map_nil, List.append_nil, List.nil_append, List.cons_append, List.length_cons, List.length_nil, List.getElem?_cons_zero, List.getElem?_cons_succ, List.set_cons_zero, List.set_cons_succ, if_true, if_false, List.replicate_zero, List.replicate_succ, List.length_set, Bool.not_true, Bool.not_false, decide_true, decide_false, true_and, and_true, Nat.reduceAdd, Nat.reduceLT, Nat.reduceLeDiff, reduceIte, reduceCtorEq]
        have e : ((((strsD l).length : Nat) : Int) - 1).toNat = l.length - 1 := by
          rw [hl]
          omega
        have e2 := rng2_eq h1 (by rw [hl] at few ⊢; omega)
        rw [e, rng_from] at e2
        exact e2
      obtain ⟨o2, e2⟩ := lot_loop2 (l := l) (o1 := o1) (b := b) (l.length - 1) 1 none (Nat.le_refl 1) (by omega)
      have e2' : ascB (l.drop (1 - 1)) = ascB l := rfl
      rw [e2'] at e2
      have hC : dFor (dRng2 (dCons (dC (.int 1)) (dCons (dCB opLen (dCons (dV 0) dNil)) dNil))) (dName 2) (dIfS (dTest (dOp opLe (dOp opIx (dV 0) (dV 2)) (dOp opIx (dV 0) (dOp opSub (dV 2) (dC (.int 1)))))) (dRet (dC (.bool false))) dNx) ⟨[some (.d (.tuple (strsD l))), o1, none], b⟩ = some (if ascB l = true then OutS.nx else .rt (.d (.bool false)), ⟨[some (.d (.tuple (strsD l))), o1, o2], b⟩) := by
        rw [e_fr, rg, e_fr1]
        exact e2
      rw [e_fr] at hC
      cases ha : ascB l with
      | true =>
        rw [ha] at hC
        simp only [e_op4, e_op3, e_op2, e_op1, e_op, e_un2, e_un1, e_un, e_seq_nx, e_seq_rt, e_seq_bk, e_seq_ct, e_seq, e_nx, e_bk, e_ct, e_put, e_set1, e_set, e_drop1, e_drop, e_ret1, e_ret, e_retN, e_if_t, e_if_f, e_ifS, e_ifE, e_test1, e_test, e_not1, e_not, e_and_t, e_and_f, e_and, e_or_t, e_or_f, e_or, e_andV_t, e_andV_f, e_andV, e_orV_t, e_orV_f, e_orV, e_notV1, e_notV, e_nil, e_cons2, e_cons1, e_cons, e_tk2, e_tk1, e_tk0, e_tk, e_tup2, e_tup1, e_tup, e_lst2, e_lst1, e_lst, e_da1, e_da0, e_da, e_cb2, e_cb1, e_cb, e_v_d, e_v_o, e_v_b, e_v, e_c, e_h_d, e_h_f, e_h_s, e_h_b, e_at1, e_at, e_lm, e_d_d, e_d_f, e_d_s, e_d_b, e_ts, e_t_d, e_t_f, e_t_s, e_p_d, e_p_l, e_p_t, e_put_d, e_put_f, e_put_b, e_bx1, e_bx, e_ap2, e_ap1, e_ap0, e_apS, e_ap, e_arg2, e_arg1, e_arg0, e_arg_b, e_arg_d, e_arg_s, e_cl3, e_cl2, e_cl1, e_cl, e_rv_d, e_rv_o, e_rv_b, e_df2, e_df_r, e_df_n, e_df, e_om, e_r_d, e_r_f, e_r_s, e_r_b, e_ff_n, e_ff_c, e_ff_b, e_ff_r, e_fg, e_fr1, e_fr, e_nm, e_im, e_it2, e_it1, e_it, e_i_l, e_i_t, e_lc3, e_lc1, e_lc, e_io1, e_io, e_iv2, e_iv_d, e_iv_o, e_iv, e_ch6, e_ch5, e_ch4t, e_ch4f, e_ch3, e_ch2, e_ch1, e_ch, e_so_d, e_so_f, e_pr3, e_pr2, e_pr1, e_pr, e_sl4, e_sl3, e_sl2, e_sl1, e_sl, e_nop, e_pt1, e_pt, o_sl_l, o_sl_t, e_yes, e_wp, e_wp0, e_wp1, e_re0, e_re1, e_kd_d, e_kd_o, e_kd_b, e_kd_n, o_add_i, o_add_s, o_add_l, o_add_t, o_sub, o_mul, o_div, o_mod, o_pow, o_lt_i, o_lt_s, o_le_i, o_le_s, o_gt_i, o_ge_i, o_ix_l, o_ix_t, o_ixK, o_len_l, o_len_t, o_len_s, o_int_i, o_int_b, o_abs, o_max, o_min, o_lst_l, o_lst_t, o_tup_l, o_tup_t, List.map_cons, List.map_nil, List.append_nil, List.nil_append, List.cons_append, List.length_cons, List.length_nil, List.getElem?_cons_zero, List.getElem?_cons_succ, List.set_cons_zero, List.set_cons_succ, if_true, if_false, List.replicate_zero, List.replicate_succ, List.length_set, Bool.not_true, Bool.not_false, decide_true, decide_false, true_and, and_true, Nat.reduceAdd, Nat.reduceLT, Nat.reduceLeDiff, reduceIte, reduceCtorEq, isiT_yes, e1, hC]
      | false =>
        rw [ha] at hC
        simp only [e_op4, e_op3, e_op2, e_op1, e_op, e_un2, e_un1, e_un, e_seq_nx, e_seq_rt, e_seq_bk, e_seq_ct, e_seq, e_nx, e_bk, e_ct, e_put, e_set1, e_set, e_drop1, e_drop, e_ret1, e_ret, e_retN, e_if_t, e_if_f, e_ifS, e_ifE, e_test1, e_test, e_not1, e_not, e_and_t, e_and_f, e_and, e_or_t, e_or_f, e_or, e_andV_t, e_andV_f, e_andV, e_orV_t, e_orV_f, e_orV, e_notV1, e_notV, e_nil, e_cons2, e_cons1, e_cons, e_tk2, e_tk1, e_tk0, e_tk, e_tup2, e_tup1, e_tup, e_lst2, e_lst1, e_lst, e_da1, e_da0, e_da, e_cb2, e_cb1, e_cb, e_v_d, e_v_o, e_v_b, e_v, e_c, e_h_d, e_h_f, e_h_s, e_h_b, e_at1, e_at, e_lm, e_d_d, e_d_f, e_d_s, e_d_b, e_ts, e_t_d, e_t_f, e_t_s, e_p_d, e_p_l, e_p_t, e_put_d, e_put_f, e_put_b, e_bx1, e_bx, e_ap2, e_ap1, e_ap0, e_apS, e_ap, e_arg2, e_arg1, e_arg0, e_arg_b, e_arg_d, e_arg_s, e_cl3, e_cl2, e_cl1, e_cl, e_rv_d, e_rv_o, e_rv_b, e_df2, e_df_r, e_df_n, e_df, e_om, e_r_d, e_r_f, e_r_s, e_r_b, e_ff_n, e_ff_c, e_ff_b, e_ff_r, e_fg, e_fr1, e_fr, e_nm, e_im, e_it2, e_it1, e_it, e_i_l, e_i_t, e_lc3, e_lc1, e_lc, e_io1, e_io, e_iv2, e_iv_d, e_iv_o, e_iv, e_ch6, e_ch5, e_ch4t, e_ch4f, e_ch3, e_ch2, e_ch1, e_ch, e_so_d, e_so_f, e_pr3, e_pr2, e_pr1, e_pr, e_sl4, e_sl3, e_sl2, e_sl1, e_sl, e_nop, e_pt1, e_pt, o_sl_l, o_sl_t, e_yes, e_wp, e_wp0, e_wp1, e_re0, e_re1, e_kd_d, e_kd_o, e_kd_b, e_kd_n, o_add_i, o_add_s, o_add_l, o_add_t, o_sub, o_mul, o_div, o_mod, o_pow, o_lt_i, o_lt_s, o_le_i, o_le_s, o_gt_i, o_ge_i, o_ix_l, o_ix_t, o_ixK, o_len_l, o_len_t, o_len_s, o_int_i, o_int_b, o_abs, o_max, o_min, o_lst_l, o_lst_t, o_tup_l, o_tup_t, List.map_cons, List.map_nil, List.append_nil, List.nil_append, List.cons_append, List.length_cons, List.length_nil, List.getElem?_cons_zero, List.getElem?_cons_succ, List.set_cons_zero, List.set_cons_succ, if_true, if_false, List.replicate_zero, List.replicate_succ, List.length_set, Bool.not_true, Bool.not_false, decide_true, decide_false, true_and, and_true, Nat.reduceAdd, Nat.reduceLT, Nat.reduceLeDiff, reduceIte, reduceCtorEq, isiT_yes, e1, hC]
  · have e1 := isiT_not (x := x) (fun z e => ht ⟨z, e⟩) hd
    have e : lotB x = false := by
      cases x with
      | tuple z => exact absurd ⟨z, rfl⟩ ht
      | _ => rfl
    rw [e]
    simp only [e_op4, e_op3, e_op2, e_op1, e_op, e_un2, e_un1, e_un, e_seq_nx, e_seq_rt, e_seq_bk, e_seq_ct, e_seq, e_nx, e_bk, e_ct, e_put, e_set1, e_set, e_drop1, e_drop, e_ret1, e_ret, e_retN, e_if_t, e_if_f, e_ifS, e_ifE, e_test1, e_test, e_not1, e_not, e_and_t, e_and_f, e_and, e_or_t, e_or_f, e_or, e_andV_t, e_andV_f, e_andV, e_orV_t, e_orV_f, e_orV, e_notV1, e_notV, e_nil, e_cons2, e_cons1, e_cons, e_tk2, e_tk1, e_tk0, e_tk, e_tup2, e_tup1, e_tup, e_lst2, e_lst1, e_lst, e_da1, e_da0, e_da, e_cb2, e_cb1, e_cb, e_v_d, e_v_o, e_v_b, e_v, e_c, e_h_d, e_h_f, e_h_s, e_h_b, e_at1, e_at, e_lm, e_d_d, e_d_f, e_d_s, e_d_b, e_ts, e_t_d, e_t_f, e_t_s, e_p_d, e_p_l, e_p_t, e_put_d, e_put_f, e_put_b, e_bx1, e_bx, e_ap2, e_ap1, e_ap0, e_apS, e_ap, e_arg2, e_arg1, e_arg0, e_arg_b, e_arg_d, e_arg_s, e_cl3, e_cl2, e_cl1, e_cl, e_rv_d, e_rv_o, e_rv_b, e_df2, e_df_r, e_df_n, e_df, e_om, e_r_d, e_r_f, e_r_s, e_r_b, e_ff_n, e_ff_c, e_ff_b, e_ff_r, e_fg, e_fr1, e_fr, e_nm, e_im, e_it2, e_it1, e_it, e_i_l, e_i_t, e_lc3, e_lc1, e_lc, e_io1, e_io, e_iv2, e_iv_d, e_iv_o, e_iv, e_ch6, e_ch5, e_ch4t, e_ch4f, e_ch3, e_ch2, e_ch1, e_ch, e_so_d, e_so_f, e_pr3, e_pr2, e_pr1, e_pr, e_sl4, e_sl3, e_sl2, e_sl1, e_sl, e_nop, e_pt1, e_pt, o_sl_l, o_sl_t, e_yes, e_wp, e_wp0, e_wp1, e_re0, e_re1, e_kd_d, e_kd_o, e_kd_b, e_kd_n, o_add_i, o_add_s, o_add_l, o_add_t, o_sub, o_mul, o_div, o_mod, o_pow, o_lt_i, o_lt_s, o_le_i, o_le_s, o_gt_i, o_ge_i, o_ix_l, o_ix_t, o_ixK, o_len_l, o_len_t, o_len_s, o_int_i, o_int_b, o_abs, o_max, o_min, o_lst_l, o_lst_t, o_tup_l, o_tup_t, List.map_cons, List.map_nil, List.append_nil, List.nil_append, List.cons_append, List.length_cons, List.length_nil, List.getElem?_cons_zero, List.getElem?_cons_succ, List.set_cons_zero, List.set_cons_succ, if_true, if_false, List.replicate_zero, List.replicate_succ, List.length_set, Bool.not_true, Bool.not_false, decide_true, decide_false, true_and, and_true, Nat.reduceAdd, Nat.reduceLT, Nat.reduceLeDiff, reduceIte, reduceCtorEq, e1]
end XN

set_option maxRecDepth 100000
set_option maxHeartbeats 4000000
/-! the law's own draws -/
namespace XN
open PySem PySem.Spec PyProof.Rows PySem.W L2 Evl XD

def Bx (b : List Int) : Prop := ∃ x y z, b = [x, y, z]
theorem pow_8191 : (8191 : Int).natAbs < 2 ^ 8000 := pow_small (by decide) (by decide)
/-- the next number below n -/
theorem take_is {b : List Int} {n : Int} (hb : Bx b) (hn : 0 < n) (h9 : n < 1000000000) : ∃ r b', f__law_take [.bx, .d (.int n)] b = some (.d (.int r), b') ∧ 0 ≤ r ∧ r < n ∧ Bx b' := by
  obtain ⟨x, y, z, rfl⟩ := hb
  have hb := pow_small (by omega) h9
  have c1 : (0 : Int) < 2147483563 := by decide
  have c2 : (0 : Int) < 2147483629 := by decide
  have c3 : (0 : Int) < 8191 := by decide
  have c4 := pow_8191
  have m1 : ∀ a : Int, (-(2 ^ 64) < a ∧ a < 2 ^ 64) ∨ (-(2 ^ 64) < (69621 : Int) ∧ (69621 : Int) < 2 ^ 64) := fun _ => .inr (by decide)
  have m2 : ∀ a : Int, (-(2 ^ 64) < (99991 : Int) ∧ (99991 : Int) < 2 ^ 64) ∨ (-(2 ^ 64) < a ∧ a < 2 ^ 64) := fun _ => .inl (by decide)
  have m3 : ∀ a : Int, (-(2 ^ 64) < a ∧ a < 2 ^ 64) ∨ (-(2 ^ 64) < (40692 : Int) ∧ (40692 : Int) < 2 ^ 64) := fun _ => .inr (by decide)
  have m4 : ∀ a : Int, (-(2 ^ 64) < a ∧ a < 2 ^ 64) ∨ (-(2 ^ 64) < (2147483647 : Int) ∧ (2147483647 : Int) < 2 ^ 64) := fun _ => .inr (by decide)
  unfold f__law_take g__law_take
  simp only [e_op4, e_op3, e_op2, e_op1, e_op, e_un2, e_un1, e_un, e_seq_nx, e_seq_rt, e_seq_bk, e_seq_ct, e_seq, e_nx, e_bk, e_ct, e_put, e_set1, e_set, e_drop1, e_drop, e_ret1, e_ret, e_retN, e_if_t, e_if_f, e_ifS, e_ifE, e_test1, e_test, e_not1, e_not, e_and_t, e_and_f, e_and, e_or_t, e_or_f, e_or, e_andV_t, e_andV_f, e_andV, e_orV_t, e_orV_f, e_orV, e_notV1, e_notV, e_nil, e_cons2, e_cons1, e_cons, e_tk2, e_tk1, e_tk0, e_tk, e_tup2, e_tup1, e_tup, e_lst2, e_lst1, e_lst, e_da1, e_da0, e_da, e_cb2, e_cb1, e_cb, e_v_d, e_v_o, e_v_b, e_v, e_c, e_h_d, e_h_f, e_h_s, e_h_b, e_at1, e_at, e_lm, e_d_d, e_d_f, e_d_s, e_d_b, e_ts, e_t_d, e_t_f, e_t_s, e_p_d, e_p_l, e_p_t, e_put_d, e_put_f, e_put_b, e_bx1, e_bx, e_ap2, e_ap1, e_ap0, e_apS, e_ap, e_arg2, e_arg1, e_arg0, e_arg_b, e_arg_d, e_arg_s, e_cl3, e_cl2, e_cl1, e_cl, e_rv_d, e_rv_o, e_rv_b, e_df2, e_df_r, e_df_n, e_df, e_om, e_r_d, e_r_f, e_r_s, e_r_b, e_ff_n, e_ff_c, e_ff_b, e_ff_r, e_fg, e_fr1, e_fr, e_nm, e_im, e_it2, e_it1, e_it, e_i_l, e_i_t, e_lc3, e_lc1, e_lc, e_io1, e_io, e_iv2, e_iv_d, e_iv_o, e_iv, e_ch6, e_ch5, e_ch4t, e_ch4f, e_ch3, e_ch2, e_ch1, e_ch, e_so_d, e_so_f, e_pr3, e_pr2, e_pr1, e_pr, e_sl4, e_sl3, e_sl2, e_sl1, e_sl, e_nop, e_pt1, e_pt, o_sl_l, o_sl_t, e_yes, e_wp, e_wp0, e_wp1, e_re0, e_re1, e_kd_d, e_kd_o, e_kd_b, e_kd_n, o_add_i, o_add_s, o_add_l, o_add_t, o_sub, o_mul, o_div, o_mod, o_pow, o_lt_i, o_lt_s, o_le_i, o_le_s, o_gt_i, o_ge_i, o_ix_l, o_ix_t, o_ixK, o_len_l, o_len_t, o_len_s, o_int_i, o_int_b, o_abs, o_max, o_min, o_lst_l, o_lst_t, o_tup_l, o_tup_t, List.map_cons, List.map_nil, List.append_nil, List.nil_append, List.cons_append, List.length_cons, List.length_nil, List.getElem?_cons_zero, List.getElem?_cons_succ, List.set_cons_zero, List.set_cons_succ, if_true, if_false, List.replicate_zero, List.replicate_succ, List.length_set, Bool.not_true, Bool.not_false, decide_true, decide_false, true_and, and_true, Nat.reduceAdd, Nat.reduceLT, Nat.reduceLeDiff, reduceIte, reduceCtorEq, ix_0, ix_1, ix_2]
  by_cases h : 0 < x
  · simp only [e_op4, e_op3, e_op2, e_op1, e_op, e_un2, e_un1, e_un, e_seq_nx, e_seq_rt, e_seq_bk, e_seq_ct, e_seq, e_nx, e_bk, e_ct, e_put, e_set1, e_set, e_drop1, e_drop, e_ret1, e_ret, e_retN, e_if_t, e_if_f, e_ifS, e_ifE, e_test1, e_test, e_not1, e_not, e_and_t, e_and_f, e_and, e_or_t, e_or_f, e_or, e_andV_t, e_andV_f, e_andV, e_orV_t, e_orV_f, e_orV, e_notV1, e_notV, e_nil, e_cons2, e_cons1, e_cons, e_tk2, e_tk1, e_tk0, e_tk, e_tup2, e_tup1, e_tup, e_lst2, e_lst1, e_lst, e_da1, e_da0, e_da, e_cb2, e_cb1, e_cb, e_v_d, e_v_o, e_v_b, e_v, e_c, e_h_d, e_h_f, e_h_s, e_h_b, e_at1, e_at, e_lm, e_d_d, e_d_f, e_d_s, e_d_b, e_ts, e_t_d, e_t_f, e_t_s, e_p_d, e_p_l, e_p_t, e_put_d, e_put_f, e_put_b, e_bx1, e_bx, e_ap2, e_ap1, e_ap0, e_apS, e_ap, e_arg2, e_arg1, e_arg0, e_arg_b, e_arg_d, e_arg_s, e_cl3, e_cl2, e_cl1, e_cl, e_rv_d, e_rv_o, e_rv_b, e_df2, e_df_r, e_df_n, e_df, e_om, e_r_d, e_r_f, e_r_s, e_r_b, e_ff_n, e_ff_c, e_ff_b, e_ff_r, e_fg, e_fr1, e_fr, e_nm, e_im, e_it2, e_it1, e_it, e_i_l, e_i_t, e_lc3, e_lc1, e_lc, e_io1, e_io, e_iv2, e_iv_d, e_iv_o, e_iv, e_ch6, e_ch5, e_ch4t, e_ch4f, e_ch3, e_ch2, e_ch1, e_ch, e_so_d, e_so_f, e_pr3, e_pr2, e_pr1, e_pr, e_sl4, e_sl3, e_sl2, e_sl1, e_sl, e_nop, e_pt1, e_pt, o_sl_l, o_sl_t, e_yes, e_wp, e_wp0, e_wp1, e_re0, e_re1, e_kd_d, e_kd_o, e_kd_b, e_kd_n, o_add_i, o_add_s, o_add_l, o_add_t, o_sub, o_mul, o_div, o_mod, o_pow, o_lt_i, o_lt_s, o_le_i, o_le_s, o_gt_i, o_ge_i, o_ix_l, o_ix_t, o_ixK, o_len_l, o_len_t, o_len_s, o_int_i, o_int_b, o_abs, o_max, o_min, o_lst_l, o_lst_t, o_tup_l, o_tup_t, List.map_cons, List.map_nil, List.append_nil, List.nil_append, List.cons_append, List.length_cons, List.length_nil, List.getElem?_cons_zero, List.getElem?_cons_succ, List.set_cons_zero, List.set_cons_succ, if_true, if_false, List.replicate_zero, List.replicate_succ, List.length_set, Bool.not_true, Bool.not_false, decide_true, decide_false, true_and, and_true, Nat.reduceAdd, Nat.reduceLT, Nat.reduceLeDiff, reduceIte, reduceCtorEq, ix_0, ix_1, ix_2, h, hn, hb, and_self]
    exact ⟨x % n, [x / n, y, z], rfl, Int.emod_nonneg _ (by omega), Int.emod_lt_of_pos _ hn, _, _, _, rfl⟩
  · simp only [e_op4, e_op3, e_op2, e_op1, e_op, e_un2, e_un1, e_un, e_seq_nx, e_seq_rt, e_seq_bk, e_seq_ct, e_seq, e_nx, e_bk, e_ct, e_put, e_set1, e_set, e_drop1, e_drop, e_ret1, e_ret, e_retN, e_if_t, e_if_f, e_ifS, e_ifE, e_test1, e_test, e_not1, e_not, e_and_t, e_and_f, e_and, e_or_t, e_or_f, e_or, e_andV_t, e_andV_f, e_andV, e_orV_t, e_orV_f, e_orV, e_notV1, e_notV, e_nil, e_cons2, e_cons1, e_cons, e_tk2, e_tk1, e_tk0, e_tk, e_tup2, e_tup1, e_tup, e_lst2, e_lst1, e_lst, e_da1, e_da0, e_da, e_cb2, e_cb1, e_cb, e_v_d, e_v_o, e_v_b, e_v, e_c, e_h_d, e_h_f, e_h_s, e_h_b, e_at1, e_at, e_lm, e_d_d, e_d_f, e_d_s, e_d_b, e_ts, e_t_d, e_t_f, e_t_s, e_p_d, e_p_l, e_p_t, e_put_d, e_put_f, e_put_b, e_bx1, e_bx, e_ap2, e_ap1, e_ap0, e_apS, e_ap, e_arg2, e_arg1, e_arg0, e_arg_b, e_arg_d, e_arg_s, e_cl3, e_cl2, e_cl1, e_cl, e_rv_d, e_rv_o, e_rv_b, e_df2, e_df_r, e_df_n, e_df, e_om, e_r_d, e_r_f, e_r_s, e_r_b, e_ff_n, e_ff_c, e_ff_b, e_ff_r, e_fg, e_fr1, e_fr, e_nm, e_im, e_it2, e_it1, e_it, e_i_l, e_i_t, e_lc3, e_lc1, e_lc, e_io1, e_io, e_iv2, e_iv_d, e_iv_o, e_iv, e_ch6, e_ch5, e_ch4t, e_ch4f, e_ch3, e_ch2, e_ch1, e_ch, e_so_d, e_so_f, e_pr3, e_pr2, e_pr1, e_pr, e_sl4, e_sl3, e_sl2, e_sl1, e_sl, e_nop, e_pt1, e_pt, o_sl_l, o_sl_t, e_yes, e_wp, e_wp0, e_wp1, e_re0, e_re1, e_kd_d, e_kd_o, e_kd_b, e_kd_n, o_add_i, o_add_s, o_add_l, o_add_t, o_sub, o_mul, o_div, o_mod, o_pow, o_lt_i, o_lt_s, o_le_i, o_le_s, o_gt_i, o_ge_i, o_ix_l, o_ix_t, o_ixK, o_len_l, o_len_t, o_len_s, o_int_i, o_int_b, o_abs, o_max, o_min, o_lst_l, o_lst_t, o_tup_l, o_tup_t, List.map_cons, List.map_nil, List.append_nil, List.nil_append, List.cons_append, List.length_cons, List.length_nil, List.getElem?_cons_zero, List.getElem?_cons_succ, List.set_cons_zero, List.set_cons_succ, if_true, if_false, List.replicate_zero, List.replicate_succ, List.length_set, Bool.not_true, Bool.not_false, decide_true, decide_false, true_and, and_true, Nat.reduceAdd, Nat.reduceLT, Nat.reduceLeDiff, reduceIte, reduceCtorEq, ix_0, ix_1, ix_2, h, hn, hb, and_self, c1, c2, c3, c4, m1, m2, m3, m4]
    exact ⟨_, _, rfl, Int.emod_nonneg _ (by omega), Int.emod_lt_of_pos _ hn, _, _, _, rfl⟩
theorem pick_is {b : List Int} {xs : List PyData} (hb : Bx b) (h0 : xs ≠ []) (h9 : xs.length < 100000) : ∃ r b', f__law_pick [.bx, .d (.list xs)] b = some (.d r, b') ∧ r ∈ xs ∧ Bx b' := by
  have hp : 0 < xs.length := List.length_pos_iff.mpr h0
  obtain ⟨r, b', e, r0, r1, hb'⟩ := take_is (n := (xs.length : Nat)) hb (by omega) (by omega)
  obtain ⟨k, rfl⟩ : ∃ k : Nat, r = (k : Int) := ⟨r.toNat, by omega⟩
  have hk : k < xs.length := by omega
  have i1 : atI xs (k : Int) = some xs[k] := at_nat (List.getElem?_eq_getElem hk)
  refine ⟨xs[k], b', ?_, List.getElem_mem hk, hb'⟩
  unfold f__law_pick g__law_pick
  simp only [e_op4, e_op3, e_op2, e_op1, e_op, e_un2, e_un1, e_un, e_seq_nx, e_seq_rt, e_seq_bk, e_seq_ct, e_seq, e_nx, e_bk, e_ct, e_put, e_set1, e_set, e_drop1, e_drop, e_ret1, e_ret, e_retN, e_if_t, e_if_f, e_ifS, e_ifE, e_test1, e_test, e_not1, e_not, e_and_t, e_and_f, e_and, e_or_t, e_or_f, e_or, e_andV_t, e_andV_f, e_andV, e_orV_t, e_orV_f, e_orV, e_notV1, e_notV, e_nil, e_cons2, e_cons1, e_cons, e_tk2, e_tk1, e_tk0, e_tk, e_tup2, e_tup1, e_tup, e_lst2, e_lst1, e_lst, e_da1, e_da0, e_da, e_cb2, e_cb1, e_cb, e_v_d, e_v_o, e_v_b, e_v, e_c, e_h_d, e_h_f, e_h_s, e_h_b, e_at1, e_at, e_lm, e_d_d, e_d_f, e_d_s, e_d_b, e_ts, e_t_d, e_t_f, e_t_s, e_p_d, e_p_l, e_p_t, e_put_d, e_put_f, e_put_b, e_bx1, e_bx, e_ap2, e_ap1, e_ap0, e_apS, e_ap, e_arg2, e_arg1, e_arg0, e_arg_b, e_arg_d, e_arg_s, e_cl3, e_cl2, e_cl1, e_cl, e_rv_d, e_rv_o, e_rv_b, e_df2, e_df_r, e_df_n, e_df, e_om, e_r_d, e_r_f, e_r_s, e_r_b, e_ff_n, e_ff_c, e_ff_b, e_ff_r, e_fg, e_fr1, e_fr, e_nm, e_im, e_it2, e_it1, e_it, e_i_l, e_i_t, e_lc3, e_lc1, e_lc, e_io1, e_io, e_iv2, e_iv_d, e_iv_o, e_iv, e_ch6, e_ch5, e_ch4t, e_ch4f, e_ch3, e_ch2, e_ch1, e_ch, e_so_d, e_so_f, e_pr3, e_pr2, e_pr1, e_pr, e_sl4, e_sl3, e_sl2, e_sl1, e_sl, e_nop, e_pt1, e_pt, o_sl_l, o_sl_t, e_yes, e_wp, e_wp0, e_wp1, e_re0, e_re1, e_kd_d, e_kd_o, e_kd_b, e_kd_n, o_add_i, o_add_s, o_add_l, o_add_t, o_sub, o_mul, o_div, o_mod, o_pow, o_lt_i, o_lt_s, o_le_i, o_le_s, o_gt_i, o_ge_i, o_ix_l, o_ix_t, o_ixK, o_len_l, o_len_t, o_len_s, o_int_i, o_int_b, o_abs, o_max, o_min, o_lst_l, o_lst_t, o_tup_l, o_tup_t, List.map_cons, List.map_nil, List.append_nil, List.nil_append, List.cons_append, List.length_cons, List.length_nil, List.getElem?_cons_zero, List.getElem?_cons_succ, List.set_cons_zero, List.set_cons_succ, if_true, if_false, List.replicate_zero, List.replicate_succ, List.length_set, Bool.not_true, Bool.not_false, decide_true, decide_false, true_and, and_true, Nat.reduceAdd, Nat.reduceLT, Nat.reduceLeDiff, reduceIte, reduceCtorEq, e, i1]
theorem all_is {l : List Str} {b : List Int} (h : l.length ≤ 9) : f__law_all [.d (.list (strsD l))] b = some (.own (lotsD (partsL l)), b) := by
  unfold f__law_all g__law_all
  obtain ⟨o4, o5, e⟩ := parts_loop (a0 := some (.d (.list (strsD l)))) (b := b) l [[]] none none (subs_few h) fun p hp => by
    obtain rfl := List.mem_singleton.mp hp
    show 0 + l.length < 90000
    omega
  have e' : forFold (dName 2) partsBody (strsD l) ⟨[some (.d (.list (strsD l))), some (.own [.tuple []]), none, none], b⟩ = some (.nx, ⟨[some (.d (.list (strsD l))), some (.own (lotsD (subs l))), o4, o5], b⟩) := e
  have c0 : ([] : List PyData).length ≤ 100000 := by show 0 ≤ 100000; decide
  have c1 : [PyData.tuple []].length ≤ 100000 := by show 1 ≤ 100000; decide
  unfold partsBody at e'
  simp only [e_op4, e_op3, e_op2, e_op1, e_op, e_un2, e_un1, e_un, e_seq_nx, e_seq_rt, e_seq_bk, e_seq_ct, e_seq, e_nx, e_bk, e_ct, e_put, e_set1, e_set, e_drop1, e_drop, e_ret1, e_ret, e_retN, e_if_t, e_if_f, e_ifS, e_ifE, e_test1, e_test, e_not1, e_not, e_and_t, e_and_f, e_and, e_or_t, e_or_f, e_or, e_andV_t, e_andV_f, e_andV, e_orV_t, e_orV_f, e_orV, e_notV1, e_notV, e_nil, e_cons2, e_cons1, e_cons, e_tk2, e_tk1, e_tk0, e_tk, e_tup2, e_tup1, e_tup, e_lst2, e_lst1, e_lst, e_da1, e_da0, e_da, e_cb2, e_cb1, e_cb, e_v_d, e_v_o, e_v_b, e_v, e_c, e_h_d, e_h_f, e_h_s, e_h_b, e_at1, e_at, e_lm, e_d_d, e_d_f, e_d_s, e_d_b, e_ts, e_t_d, e_t_f, e_t_s, e_p_d, e_p_l, e_p_t, e_put_d, e_put_f, e_put_b, e_bx1, e_bx, e_ap2, e_ap1, e_ap0, e_apS, e_ap, e_arg2, e_arg1, e_arg0, e_arg_b, e_arg_d, e_arg_s, e_cl3, e_cl2, e_cl1, e_cl, e_rv_d, e_rv_o, e_rv_b, e_df2, e_df_r, e_df_n, e_df, e_om, e_r_d, e_r_f, e_r_s, e_r_b, e_ff_n, e_ff_c, e_ff_b, e_ff_r, e_fg, e_fr1, e_fr, e_nm, e_im, e_it2, e_it1, e_it, e_i_l, e_i_t, e_lc3, e_lc1, e_lc, e_io1, e_io, e_iv2, e_iv_d, e_iv_o, e_iv, e_ch6, e_ch5, e_ch4t, e_ch4f, e_ch3, e_ch2, e_ch1, e_ch, e_so_d, e_so_f, e_pr3, e_pr2, e_pr1, e_pr, e_sl4, e_sl3, e_sl2, e_sl1, e_sl, e_nop, e_pt1, e_pt, o_sl_l, o_sl_t, e_yes, e_wp, e_wp0, e_wp1, e_re0, e_re1, e_kd_d, e_kd_o, e_kd_b, e_kd_n, o_add_i, o_add_s, o_add_l, o_add_t, o_sub, o_mul, o_div, o_mod, o_pow, o_lt_i, o_lt_s, o_le_i, o_le_s, o_gt_i, o_ge_i, o_ix_l, o_ix_t, o_ixK, o_len_l, o_len_t, o_len_s, o_int_i, o_int_b, o_abs, o_max, o_min, o_lst_l, o_lst_t, o_tup_l, o_tup_t, List.map_cons, List.map_nil, List.append_nil, List.nil_append, List.cons_append, List.length_cons, List.length_nil, List.getElem?_cons_zero, List.getElem?_cons_succ, List.set_cons_zero, List.set_cons_succ, if_true, if_false, List.replicate_zero, List.replicate_succ, List.length_set, Bool.not_true, Bool.not_false, decide_true, decide_false, true_and, and_true, Nat.reduceAdd, Nat.reduceLT, Nat.reduceLeDiff, reduceIte, reduceCtorEq, c0, c1, items_lot, e', sort_lots_op]
  rfl
theorem eq_int (a c : Int) : opEq (.int a) (.int c) = some (.d (.bool (a == c))) := by
  have h : ∀ i : Int, SeqAt.shaped (.int i) = true := fun i => by
    show (PyData.canLay0 (.int i) && decide (PyData.depth (.int i) ≤ 64)) = true
    rw [PyData.canLay0, PyData.depth]
    rfl
  show (if SeqAt.shaped (.int a) = true ∧ SeqAt.shaped (.int c) = true then some (PV.d (.bool (PyData.eqv (.int a) (.int c)))) else none) = _
  rw [if_pos ⟨h a, h c⟩, PyData.eqv]
theorem lot_fold {names : PyData} : ∀ (l : List Str) (b : List Int), Bx b → ∃ l' b', lcFold [2] none (strsD (l)) (dName 2) (dTest (dOp opEq (dCall f__law_take (dCons (dV 0) (dCons (dC (.int 2)) dNil))) (dC (.int 0)))) (dV 2) (strsD l) ⟨[some .bx, some (.d names), none], b⟩ = some (strsD l', ⟨[some .bx, some (.d names), none], b'⟩) ∧ l'.Sublist l ∧ Bx b' := by
  have gen : ∀ (all : List PyData) (l : List Str) (b : List Int), Bx b → ∃ l' b', lcFold [2] none all (dName 2) (dTest (dOp opEq (dCall f__law_take (dCons (dV 0) (dCons (dC (.int 2)) dNil))) (dC (.int 0)))) (dV 2) (strsD l) ⟨[some .bx, some (.d names), none], b⟩ = some (strsD l', ⟨[some .bx, some (.d names), none], b'⟩) ∧ l'.Sublist l ∧ Bx b' := by
    intro all l
    induction l with
    | nil =>
      intro b hb
      refine ⟨[], b, ?_, List.Sublist.refl _, hb⟩
      show lcFold [2] none all _ _ _ [] _ = _
      unfold lcFold
      rw [if_pos chk_none]
      rfl
    | cons z l ih =>
      intro b hb
      obtain ⟨r, b1, e, r0, r1, hb1⟩ := take_is (n := 2) hb (by decide) (by decide)
      obtain ⟨l', b2, e2, sub, hb2⟩ := ih b1 hb1
      have g1 : dName 2 (.str z) ⟨[some .bx, some (.d names), none], b⟩ = some ⟨[some .bx, some (.d names), some (.d (.str z))], b⟩ := rfl
      have t1 : dTest (dOp opEq (dCall f__law_take (dCons (dV 0) (dCons (dC (.int 2)) dNil))) (dC (.int 0))) ⟨[some .bx, some (.d names), some (.d (.str z))], b⟩ = some (r == 0, ⟨[some .bx, some (.d names), some (.d (.str z))], b1⟩) := by
        simp only [e_op4, e_op3, e_op2, e_op1, e_op, e_un2, e_un1, e_un, e_seq_nx, e_seq_rt, e_seq_bk, e_seq_ct, e_seq, e_nx, e_bk, e_ct, e_put, e_set1, e_set, e_drop1, e_drop, e_ret1, e_ret, e_retN, e_if_t, e_if_f, e_ifS, e_ifE, e_test1, e_test, e_not1, e_not, e_and_t, e_and_f, e_and, e_or_t, e_or_f, e_or, e_andV_t, e_andV_f, e_andV, e_orV_t, e_orV_f, e_orV, e_notV1, e_notV, e_nil, e_cons2, e_cons1, e_cons, e_tk2, e_tk1, e_tk0, e_tk, e_tup2, e_tup1, e_tup, e_lst2, e_lst1, e_lst, e_da1, e_da0, e_da, e_cb2, e_cb1, e_cb, e_v_d, e_v_o, e_v_b, e_v, e_c, e_h_d, e_h_f, e_h_s, e_h_b, e_at1, e_at, e_lm, e_d_d, e_d_f, e_d_s, e_d_b, e_ts, e_t_d, e_t_f, e_t_s, e_p_d, e_p_l, e_p_t, e_put_d, e_put_f, e_put_b, e_bx1, e_bx, e_ap2, e_ap1, e_ap0, e_apS, e_ap, e_arg2, e_arg1, e_arg0, e_arg_b, e_arg_d, e_arg_s, e_cl3, e_cl2, e_cl1, e_cl, e_rv_d, e_rv_o, e_rv_b, e_df2, e_df_r, e_df_n, e_df, e_om, e_r_d, e_r_f, e_r_s, e_r_b, e_ff_n, e_ff_c, e_ff_b, e_ff_r, e_fg, e_fr1, e_fr, e_nm, e_im, e_it2, e_it1, e_it, e_i_l, e_i_t, e_lc3, e_lc1, e_lc, e_io1, e_io, e_iv2, e_iv_d, e_iv_o, e_iv, e_ch6, e_ch5, e_ch4t, e_ch4f, e_ch3, e_ch2, e_ch1, e_ch, e_so_d, e_so_f, e_pr3, e_pr2, e_pr1, e_pr, e_sl4, e_sl3, e_sl2, e_sl1, e_sl, e_nop, e_pt1, e_pt, o_sl_l, o_sl_t, e_yes, e_wp, e_wp0, e_wp1, e_re0, e_re1, e_kd_d, e_kd_o, e_kd_b, e_kd_n, o_add_i, o_add_s, o_add_l, o_add_t, o_sub, o_mul, o_div, o_mod, o_pow, o_lt_i, o_lt_s, o_le_i, o_le_s, o_gt_i, o_ge_i, o_ix_l, o_ix_t, o_ixK, o_len_l, o_len_t, o_len_s, o_int_i, o_int_b, o_abs, o_max, o_min, o_lst_l, o_lst_t, o_tup_l, o_tup_t, List.map_cons, List.map_nil, List.append_nil, List.nil_append, List.cons_append, List.length_cons, List.length_nil, List.getElem?_cons_zero, List.getElem?_cons_succ, List.set_cons_zero, List.set_cons_succ, if_true, if_false, List.replicate_zero, List.replicate_succ, List.length_set, Bool.not_true, Bool.not_false, decide_true, decide_false, true_and, and_true, Nat.reduceAdd, Nat.reduceLT, Nat.reduceLeDiff, reduceIte, reduceCtorEq, e, eq_int]
      have w1 : (SS.mk [some .bx, some (.d names), some (.d (.str z))] b1).wipe [2] = ⟨[some .bx, some (.d names), none], b1⟩ := rfl
      show ∃ l' b', lcFold [2] none all _ _ _ (PyData.str z :: strsD l) _ = _ ∧ _
      unfold lcFold
      rw [if_pos chk_none, g1, Option.bind_some, t1, Option.bind_some]
      cases hr : (r == 0) with
      | false =>
        refine ⟨l', b2, ?_, sub.cons z, hb2⟩
        rw [if_neg (show ¬ (false = true) from nofun), w1]
        exact e2
      | true =>
        refine ⟨z :: l', b2, ?_, sub.cons₂ z, hb2⟩
        rw [if_pos rfl]
        have f1 : dV 2 ⟨[some .bx, some (.d names), some (.d (.str z))], b1⟩ = some (.d (.str z), ⟨[some .bx, some (.d names), some (.d (.str z))], b1⟩) := rfl
        rw [f1, Option.bind_some]
        show ((RV.d (.str z)).take _).bind _ = _
        rw [show (RV.d (.str z)).take ⟨[some .bx, some (.d names), some (.d (.str z))], b1⟩ = some (.str z, ⟨[some .bx, some (.d names), some (.d (.str z))], b1⟩) from rfl, Option.bind_some]
        show (lcFold [2] none all _ _ _ (strsD l) ((SS.mk [some .bx, some (.d names), some (.d (.str z))] b1).wipe [2])).map _ = _
        rw [w1, e2]
        rfl
  exact fun l b hb => gen _ l b hb
theorem lot_is {l : List Str} {b : List Int} (hb : Bx b) (few : Few l) : ∃ l' b', f__law_lot [.bx, .d (.list (strsD l))] b = some (.d (lotD l'), b') ∧ l'.Sublist l ∧ Bx b' := by
  obtain ⟨l', b', e, sub, hb'⟩ := lot_fold (names := .list (strsD l)) l b hb
  refine ⟨l', b', ?_, sub, hb'⟩
  have few' : Few l' := Nat.lt_of_le_of_lt sub.length_le few
  have sz := few_strs few'
  unfold f__law_lot g__law_lot
  simp only [e_op4, e_op3, e_op2, e_op1, e_op, e_un2, e_un1, e_un, e_seq_nx, e_seq_rt, e_seq_bk, e_seq_ct, e_seq, e_nx, e_bk, e_ct, e_put, e_set1, e_set, e_drop1, e_drop, e_ret1, e_ret, e_retN, e_if_t, e_if_f, e_ifS, e_ifE, e_test1, e_test, e_not1, e_not, e_and_t, e_and_f, e_and, e_or_t, e_or_f, e_or, e_andV_t, e_andV_f, e_andV, e_orV_t, e_orV_f, e_orV, e_notV1, e_notV, e_nil, e_cons2, e_cons1, e_cons, e_tk2, e_tk1, e_tk0, e_tk, e_tup2, e_tup1, e_tup, e_lst2, e_lst1, e_lst, e_da1, e_da0, e_da, e_cb2, e_cb1, e_cb, e_v_d, e_v_o, e_v_b, e_v, e_c, e_h_d, e_h_f, e_h_s, e_h_b, e_at1, e_at, e_lm, e_d_d, e_d_f, e_d_s, e_d_b, e_ts, e_t_d, e_t_f, e_t_s, e_p_d, e_p_l, e_p_t, e_put_d, e_put_f, e_put_b, e_bx1, e_bx, e_ap2, e_ap1, e_ap0, e_apS, e_ap, e_arg2, e_arg1, e_arg0, e_arg_b, e_arg_d, e_arg_s, e_cl3, e_cl2, e_cl1, e_cl, e_rv_d, e_rv_o, e_rv_b, e_df2, e_df_r, e_df_n, e_df, e_om, e_r_d, e_r_f, e_r_s, e_r_b, e_ff_n, e_ff_c, e_ff_b, e_ff_r, e_fg, e_fr1, e_fr, e_nm, e_im, e_it2, e_it1, e_it, e_i_l, e_i_t, e_lc3, e_lc1, e_lc, e_io1, e_io, e_iv2, e_iv_d, e_iv_o, e_iv, e_ch6, e_ch5, e_ch4t, e_ch4f, e_ch3, e_ch2, e_ch1, e_ch, e_so_d, e_so_f, e_pr3, e_pr2, e_pr1, e_pr, e_sl4, e_sl3, e_sl2, e_sl1, e_sl, e_nop, e_pt1, e_pt, o_sl_l, o_sl_t, e_yes, e_wp, e_wp0, e_wp1, e_re0, e_re1, e_kd_d, e_kd_o, e_kd_b, e_kd_n, o_add_i, o_add_s, o_add_l, o_add_t, o_sub, o_mul, o_div, o_mod, o_pow, o_lt_i, o_lt_s, o_le_i, o_le_s, o_gt_i, o_ge_i, o_ix_l, o_ix_t, o_ixK, o_len_l, o_len_t, o_len_s, o_int_i, o_int_b, o_abs, o_max, o_min, o_lst_l, o_lst_t, o_tup_l, o_tup_t, List.map_cons, List.map_nil, List.append_nil, List.nil_append, List.cons_append, List.length_cons, List.length_nil, List.getElem?_cons_zero, List.getElem?_cons_succ, List.set_cons_zero, List.set_cons_succ, if_true, if_false, List.replicate_zero, List.replicate_succ, List.length_set, Bool.not_true, Bool.not_false, decide_true, decide_false, true_and, and_true, Nat.reduceAdd, Nat.reduceLT, Nat.reduceLeDiff, reduceIte, reduceCtorEq, e, sz]
  rfl
end XN

set_option maxRecDepth 100000
set_option maxHeartbeats 4000000
/-! the law's own names -/
namespace XN
open PySem PySem.Spec PyProof.Rows PySem.W L2 Evl XD

abbrev signs : Str := "abcdefghijklmnopqrstuvwxyz"
theorem signs_len : signs.cps.toList.length = 26 := by decide +kernel
theorem signs_let : ∀ c ∈ signs.cps.toList, letB c = true := by decide +kernel
theorem sign_at {r : Int} (h0 : 0 ≤ r) (h : r < 26) : ∃ c, atI signs.cps.toList r = some c ∧ letB c = true := by
  obtain ⟨k, rfl⟩ : ∃ k : Nat, r = (k : Int) := ⟨r.toNat, by omega⟩
  have hk : k < signs.cps.toList.length := by rw [signs_len]; omega
  exact ⟨signs.cps.toList[k], at_nat (List.getElem?_eq_getElem hk), signs_let _ (List.getElem_mem hk)⟩
theorem ix_str {z : Str} {i : Int} {c : Nat} (hz : z.length ≤ 100000) (h : atI z.cps.toList i = some c) : opIx (.str z) (.int i) = some (.d (.str ⟨#[c]⟩)) := by
  show (if z.length ≤ 100000 then (atI z.cps.toList i).map fun c => PV.d (.str ⟨#[c]⟩) else none) = _
  rw [if_pos hz, h]
  rfl
theorem app_len (z : Str) (c : Nat) : (z ++ (⟨#[c]⟩ : Str)).length = z.length + 1 := by
  show (z.cps ++ #[c]).size = z.cps.size + 1
  rw [Array.size_append]
  rfl
theorem app_list (z : Str) (c : Nat) : (z ++ (⟨#[c]⟩ : Str)).cps.toList = z.cps.toList ++ [c] := by
  show (z.cps ++ #[c]).toList = _
  rw [Array.toList_append]
theorem name_ok {z : Str} (h : nameL z = true) : PyData.strOk z = true := by
  unfold nameL at h
  rw [Bool.and_eq_true] at h
  show z.cps.all (· < 0x110000) = true
  rw [← Array.all_toList]
  exact List.all_eq_true.mpr fun c hc => by
    have := of_decide_eq_true (List.all_eq_true.mp h.2 c hc)
    exact decide_eq_true (by omega)
theorem rng1_eq {fa : DA} {s s1 : SS} {n : Int} (h : fa s = some ([.d (.int n)], s1)) (hc : -1000000000 < n ∧ n < 1000000000) : dRng1 fa s = some (rngI 0 n.toNat, s1) := by
  unfold dRng1
  rw [h]
  exact if_pos hc
noncomputable def spell : DS := dSet 5 (dOp opAdd (dV 5) (dOp opIx (dC (.str signs)) (dCall f__law_take (dCons (dV 0) (dCons (dOp opIx (dLst (dCons (dC (.int 3)) (dCons (dC (.int 26)) dNil))) (dV 2)) dNil)))))
theorem spell_loop {a1 a3 a4 : Option SV} {w k : Int} (hw : atI [PyData.int 3, .int 26] w = some (.int k)) (hk : 0 < k ∧ k ≤ 26) : ∀ (its : List PyData) (z : Str) (o6 : Option SV) (b : List Int), Bx b → z.cps.toList.all letB = true → z.length + its.length < 1000 →
    ∃ z' o7 b', forFold (dName 6) spell its ⟨[some .bx, a1, some (.d (.int w)), a3, a4, some (.d (.str z)), o6], b⟩ = some (.nx, ⟨[some .bx, a1, some (.d (.int w)), a3, a4, some (.d (.str z')), o7], b'⟩) ∧ Bx b' ∧ z'.cps.toList.all letB = true ∧ z'.length = z.length + its.length
  | [], z, o6, b, hb, hz, _ => ⟨z, o6, b, rfl, hb, hz, rfl⟩
  | x :: its, z, o6, b, hb, hz, hl => by
    rw [List.length_cons] at hl
    obtain ⟨r, b1, e1, r0, r1, hb1⟩ := take_is (n := k) hb hk.1 (by omega)
    obtain ⟨c, hc, lc⟩ := sign_at (r := r) r0 (by omega)
    have i1 : opIx (.str signs) (.int r) = some (.d (.str ⟨#[c]⟩)) := ix_str (by
      show signs.cps.size ≤ 100000
      rw [← Array.length_toList, signs_len]
      decide) hc
    have zl : z.length + (⟨#[c]⟩ : Str).length ≤ 100000 := by
      show z.length + 1 ≤ 100000
      omega
    obtain ⟨z', o7, b', e2, hb', hz', hl'⟩ := spell_loop (a1 := a1) (a3 := a3) (a4 := a4) hw hk its (z ++ (⟨#[c]⟩ : Str)) (some (.d x)) b1 hb1 (by rw [app_list, List.all_append, hz, List.all_cons, lc]; rfl) (by rw [app_len]; omega)
    refine ⟨z', o7, b', ?_, hb', hz', by rw [hl', app_len, List.length_cons]; omega⟩
    have c6 : 6 < [some SV.bx, a1, some (SV.d (.int w)), a3, a4, some (SV.d (.str z)), o6].length := by show 6 < 7; decide
    have c5 : 5 < [some SV.bx, a1, some (SV.d (.int w)), a3, a4, some (SV.d (.str z)), some (SV.d x)].length := by show 5 < 7; decide
    have cl : [PyData.int 3, .int 26].length ≤ 100000 := by show 2 ≤ 100000; decide
    have st : spell ⟨[some .bx, a1, some (.d (.int w)), a3, a4, some (.d (.str z)), some (.d x)], b⟩ = some (.nx, ⟨[some .bx, a1, some (.d (.int w)), a3, a4, some (.d (.str (z ++ (⟨#[c]⟩ : Str)))), some (.d x)], b1⟩) := by
      unfold spell
      simp only [e_op4, e_op3, e_op2, e_op1, e_op, e_un2, e_un1, e_un, e_seq_nx, e_seq_rt, e_seq_bk, e_seq_ct, e_seq, e_nx, e_bk, e_ct, e_put, e_set1, e_set, e_drop1, e_drop, e_ret1, e_ret, e_retN, e_if_t, e_if_f, e_ifS, e_ifE, e_test1, e_test, e_not1, e_not, e_and_t, e_and_f, e_and, e_or_t, e_or_f, e_or, e_andV_t, e_andV_f, e_andV, e_orV_t, e_orV_f, e_orV, e_notV1, e_notV, e_nil, e_cons2, e_cons1, e_cons, e_tk2, e_tk1, e_tk0, e_tk, e_tup2, e_tup1, e_tup, e_lst2, e_lst1, e_lst, e_da1, e_da0, e_da, e_cb2, e_cb1, e_cb, e_v_d, e_v_o, e_v_b, e_v, e_c, e_h_d, e_h_f, e_h_s, e_h_b, e_at1, e_at, e_lm, e_d_d, e_d_f, e_d_s, e_d_b, e_ts, e_t_d, e_t_f, e_t_s, e_p_d, e_p_l, e_p_t, e_put_d, e_put_f, e_put_b, e_bx1, e_bx, e_ap2, e_ap1, e_ap0, e_apS, e_ap, e_arg2, e_arg1, e_arg0, e_arg_b, e_arg_d, e_arg_s, e_cl3, e_cl2, e_cl1, e_cl, e_rv_d, e_rv_o, e_rv_b, e_df2, e_df_r, e_df_n, e_df, e_om, e_r_d, e_r_f, e_r_s, e_r_b, e_ff_n, e_ff_c, e_ff_b, e_ff_r, e_fg, e_fr1, e_fr, e_nm, e_im, e_it2, e_it1, e_it, e_i_l, e_i_t, e_lc3, e_lc1, e_lc, e_io1, e_io, e_iv2, e_iv_d, e_iv_o, e_iv, e_ch6, e_ch5, e_ch4t, e_ch4f, e_ch3, e_ch2, e_ch1, e_ch, e_so_d, e_so_f, e_pr3, e_pr2, e_pr1, e_pr, e_sl4, e_sl3, e_sl2, e_sl1, e_sl, e_nop, e_pt1, e_pt, o_sl_l, o_sl_t, e_yes, e_wp, e_wp0, e_wp1, e_re0, e_re1, e_kd_d, e_kd_o, e_kd_b, e_kd_n, o_add_i, o_add_s, o_add_l, o_add_t, o_sub, o_mul, o_div, o_mod, o_pow, o_lt_i, o_lt_s, o_le_i, o_le_s, o_gt_i, o_ge_i, o_ix_l, o_ix_t, o_ixK, o_len_l, o_len_t, o_len_s, o_int_i, o_int_b, o_abs, o_max, o_min, o_lst_l, o_lst_t, o_tup_l, o_tup_t, List.map_cons, List.map_nil, List.append_nil, List.nil_append, List.cons_append, List.length_cons, List.length_nil, List.getElem?_cons_zero, List.getElem?_cons_succ, List.set_cons_zero, List.set_cons_succ, if_true, if_false, List.replicate_zero, List.replicate_succ, List.length_set, Bool.not_true, Bool.not_false, decide_true, decide_false, true_and, and_true, Nat.reduceAdd, Nat.reduceLT, Nat.reduceLeDiff, reduceIte, reduceCtorEq, c5, cl, hw, e1, i1, zl]
    rw [for_cons]
    simp only [e_op4, e_op3, e_op2, e_op1, e_op, e_un2, e_un1, e_un, e_seq_nx, e_seq_rt, e_seq_bk, e_seq_ct, e_seq, e_nx, e_bk, e_ct, e_put, e_set1, e_set, e_drop1, e_drop, e_ret1, e_ret, e_retN, e_if_t, e_if_f, e_ifS, e_ifE, e_test1, e_test, e_not1, e_not, e_and_t, e_and_f, e_and, e_or_t, e_or_f, e_or, e_andV_t, e_andV_f, e_andV, e_orV_t, e_orV_f, e_orV, e_notV1, e_notV, e_nil, e_cons2, e_cons1, e_cons, e_tk2, e_tk1, e_tk0, e_tk, e_tup2, e_tup1, e_tup, e_lst2, e_lst1, e_lst, e_da1, e_da0, e_da, e_cb2, e_cb1, e_cb, e_v_d, e_v_o, e_v_b, e_v, e_c, e_h_d, e_h_f, e_h_s, e_h_b, e_at1, e_at, e_lm, e_d_d, e_d_f, e_d_s, e_d_b, e_ts, e_t_d, e_t_f, e_t_s, e_p_d, e_p_l, e_p_t, e_put_d, e_put_f, e_put_b, e_bx1, e_bx, e_ap2, e_ap1, e_ap0, e_apS, e_ap, e_arg2, e_arg1, e_arg0, e_arg_b, e_arg_d, e_arg_s, e_cl3, e_cl2, e_cl1, e_cl, e_rv_d, e_rv_o, e_rv_b, e_df2, e_df_r, e_df_n, e_df, e_om, e_r_d, e_r_f, e_r_s, e_r_b, e_ff_n, e_ff_c, e_ff_b, e_ff_r, e_fg, e_fr1, e_fr, e_nm, e_im, e_it2, e_it1, e_it, e_i_l, e_i_t, e_lc3, e_lc1, e_lc, e_io1, e_io, e_iv2, e_iv_d, e_iv_o, e_iv, e_ch6, e_ch5, e_ch4t, e_ch4f, e_ch3, e_ch2, e_ch1, e_ch, e_so_d, e_so_f, e_pr3, e_pr2, e_pr1, e_pr, e_sl4, e_sl3, e_sl2, e_sl1, e_sl, e_nop, e_pt1, e_pt, o_sl_l, o_sl_t, e_yes, e_wp, e_wp0, e_wp1, e_re0, e_re1, e_kd_d, e_kd_o, e_kd_b, e_kd_n, o_add_i, o_add_s, o_add_l, o_add_t, o_sub, o_mul, o_div, o_mod, o_pow, o_lt_i, o_lt_s, o_le_i, o_le_s, o_gt_i, o_ge_i, o_ix_l, o_ix_t, o_ixK, o_len_l, o_len_t, o_len_s, o_int_i, o_int_b, o_abs, o_max, o_min, o_lst_l, o_lst_t, o_tup_l, o_tup_t, List.map_cons, List.map_nil, List.append_nil, List.nil_append, List.cons_append, List.length_cons, List.length_nil, List.getElem?_cons_zero, List.getElem?_cons_succ, List.set_cons_zero, List.set_cons_succ, if_true, if_false, List.replicate_zero, List.replicate_succ, List.length_set, Bool.not_true, Bool.not_false, decide_true, decide_false, true_and, and_true, Nat.reduceAdd, Nat.reduceLT, Nat.reduceLeDiff, reduceIte, reduceCtorEq, c6, st]
    exact e2
noncomputable def nameBody : DS := dSeq (dIfS (dTest (dOp opEq (dCB opLen (dCons (dV 3) dNil)) (dV 1))) dBk dNx)
  (dSeq (dSet 5 (dC (.str "")))
  (dSeq (dFor (dRng1 (dCons (dOp opAdd (dC (.int 1)) (dCall f__law_take (dCons (dV 0) (dCons (dOp opIx (dLst (dCons (dC (.int 2)) (dCons (dC (.int 5)) dNil))) (dV 2)) dNil)))) dNil)) (dName 6) spell)
  (dIfS (dTest (dOp opNi (dV 5) (dV 3))) (dApp 3 (dV 5)) dNx)))
def Nms (ns : List Str) : Prop := (∀ z ∈ ns, nameL z = true) ∧ ns.Nodup
theorem nms_oks {ns : List Str} (h : Nms ns) : Oks ns := fun z m => name_ok (h.1 z m)
theorem name_loop2 {many w k k2 : Int} (h3 : atI [PyData.int 3, .int 26] w = some (.int k)) (hk : 0 < k ∧ k ≤ 26) (h2 : atI [PyData.int 2, .int 5] w = some (.int k2)) (hk2 : 0 < k2 ∧ k2 ≤ 5) (hm : 1 ≤ many ∧ many < 1000) :
    ∀ (its : List PyData) (ns : List Str) (o4 o5 o6 : Option SV) (b : List Int), Bx b → Nms ns → (ns.length : Int) ≤ many →
    ∃ ns' o7 o8 o9 b', forFold (dName 4) nameBody its ⟨[some .bx, some (.d (.int many)), some (.d (.int w)), some (.own (strsD ns)), o4, o5, o6], b⟩ =
      some (.nx, ⟨[some .bx, some (.d (.int many)), some (.d (.int w)), some (.own (strsD ns')), o7, o8, o9], b'⟩) ∧ Bx b' ∧ Nms ns' ∧ (ns'.length : Int) ≤ many ∧ (its ≠ [] ∨ ns ≠ [] → ns' ≠ [])
  | [], ns, o4, o5, o6, b, hb, hn, hl => ⟨ns, o4, o5, o6, b, rfl, hb, hn, hl, fun h => h.elim (fun q => absurd rfl q) id⟩
  | x :: its, ns, o4, o5, o6, b, hb, hn, hl => by
    have c4 : 4 < [some SV.bx, some (SV.d (.int many)), some (SV.d (.int w)), some (SV.own (strsD ns)), o4, o5, o6].length := by show 4 < 7; decide
    have ln : (strsD ns).length = ns.length := List.length_map _
    rw [for_cons]
    cases hq : ((((strsD ns).length : Nat) : Int) == many) with
    | true =>
      refine ⟨ns, some (.d x), o5, o6, b, ?_, hb, hn, hl, fun _ z => ?_⟩
      · have st : nameBody ⟨[some .bx, some (.d (.int many)), some (.d (.int w)), some (.own (strsD ns)), some (.d x), o5, o6], b⟩ = some (.bk, ⟨[some .bx, some (.d (.int many)), some (.d (.int w)), some (.own (strsD ns)), some (.d x), o5, o6], b⟩) := by
          unfold nameBody
          simp only [e_op4, e_op3, e_op2, e_op1, e_op, e_un2, e_un1, e_un, e_seq_nx, e_seq_rt, e_seq_bk, e_seq_ct, e_seq, e_nx, e_bk, e_ct, e_put, e_set1, e_set, e_drop1, e_drop, e_ret1, e_ret, e_retN, e_if_t, e_if_f, e_ifS, e_ifE, e_test1, e_test, e_not1, e_not, e_and_t, e_and_f, e_and, e_or_t, e_or_f, e_or, e_andV_t, e_andV_f, e_andV, e_orV_t, e_orV_f, e_orV, e_notV1, e_notV, e_nil, e_cons2, e_cons1, e_cons, e_tk2, e_tk1, e_tk0, e_tk, e_tup2, e_tup1, e_tup, e_lst2, e_lst1, e_lst, e_da1, e_da0, e_da, e_cb2, e_cb1, e_cb, e_v_d, e_v_o, e_v_b, e_v, e_c, e_h_d, e_h_f, e_h_s, e_h_b, e_at1, e_at, e_lm, e_d_d, e_d_f, e_d_s, e_d_b, e_ts, e_t_d, e_t_f, e_t_s, e_p_d, e_p_l, e_p_t, e_put_d, e_put_f, e_put_b, e_bx1, e_bx, e_ap2, e_ap1, e_ap0, e_apS, e_ap, e_arg2, e_arg1, e_arg0, e_arg_b, e_arg_d, e_arg_s, e_cl3, e_cl2, e_cl1, e_cl, e_rv_d, e_rv_o, e_rv_b, e_df2, e_df_r, e_df_n, e_df, e_om, e_r_d, e_r_f, e_r_s, e_r_b, e_ff_n, e_ff_c, e_ff_b, e_ff_r, e_fg, e_fr1, e_fr, e_nm, e_im, e_it2, e_it1, e_it, e_i_l, e_i_t, e_lc3, e_lc1, e_lc, e_io1, e_io, e_iv2, e_iv_d, e_iv_o, e_iv, e_ch6, e_ch5, e_ch4t, e_ch4f, e_ch3, e_ch2, e_ch1, e_ch, e_so_d, e_so_f, e_pr3, e_pr2, e_pr1, e_pr, e_sl4, e_sl3, e_sl2, e_sl1, e_sl, e_nop, e_pt1, e_pt, o_sl_l, o_sl_t, e_yes, e_wp, e_wp0, e_wp1, e_re0, e_re1, e_kd_d, e_kd_o, e_kd_b, e_kd_n, o_add_i, o_add_s, o_add_l, o_add_t, o_sub, o_mul, o_div, o_mod, o_pow, o_lt_i, o_lt_s, o_le_i, o_le_s, o_gt_i, o_ge_i, o_ix_l, o_ix_t, o_ixK, o_len_l, o_len_t, o_len_s, o_int_i, o_int_b, o_abs, o_max, o_min, o_lst_l, o_lst_t, o_tup_l, o_tup_t, List.map_cons, List.map_nil, List.append_nil, List.nil_append, List.cons_append, List.length_cons, List.length_nil, List.getElem?_cons_zero, List.getElem?_cons_succ, List.set_cons_zero, List.set_cons_succ, if_true, if_false, List.replicate_zero, List.replicate_succ, List.length_set, Bool.not_true, Bool.not_false, decide_true, decide_false, true_and, and_true, Nat.reduceAdd, Nat.reduceLT, Nat.reduceLeDiff, reduceIte, reduceCtorEq, eq_int, hq]
        simp only [e_op4, e_op3, e_op2, e_op1, e_op, e_un2, e_un1, e_un, e_seq_nx, e_seq_rt, e_seq_bk, e_seq_ct, e_seq, e_nx, e_bk, e_ct, e_put, e_set1, e_set, e_drop1, e_drop, e_ret1, e_ret, e_retN, e_if_t, e_if_f, e_ifS, e_ifE, e_test1, e_test, e_not1, e_not, e_and_t, e_and_f, e_and, e_or_t, e_or_f, e_or, e_andV_t, e_andV_f, e_andV, e_orV_t, e_orV_f, e_orV, e_notV1, e_notV, e_nil, e_cons2, e_cons1, e_cons, e_tk2, e_tk1, e_tk0, e_tk, e_tup2, e_tup1, e_tup, e_lst2, e_lst1, e_lst, e_da1, e_da0, e_da, e_cb2, e_cb1, e_cb, e_v_d, e_v_o, e_v_b, e_v, e_c, e_h_d, e_h_f, e_h_s, e_h_b, e_at1, e_at, e_lm, e_d_d, e_d_f, e_d_s, e_d_b, e_ts, e_t_d, e_t_f, e_t_s, e_p_d, e_p_l, e_p_t, e_put_d, e_put_f, e_put_b, e_bx1, e_bx, e_ap2, e_ap1, e_ap0, e_apS, e_ap, e_arg2, e_arg1, e_arg0, e_arg_b, e_arg_d, e_arg_s, e_cl3, e_cl2, e_cl1, e_cl, e_rv_d, e_rv_o, e_rv_b, e_df2, e_df_r, e_df_n, e_df, e_om, e_r_d, e_r_f, e_r_s, e_r_b, e_ff_n, e_ff_c, e_ff_b, e_ff_r, e_fg, e_fr1, e_fr, e_nm, e_im, e_it2, e_it1, e_it, e_i_l, e_i_t, e_lc3, e_lc1, e_lc, e_io1, e_io, e_iv2, e_iv_d, e_iv_o, e_iv, e_ch6, e_ch5, e_ch4t, e_ch4f, e_ch3, e_ch2, e_ch1, e_ch, e_so_d, e_so_f, e_pr3, e_pr2, e_pr1, e_pr, e_sl4, e_sl3, e_sl2, e_sl1, e_sl, e_nop, e_pt1, e_pt, o_sl_l, o_sl_t, e_yes, e_wp, e_wp0, e_wp1, e_re0, e_re1, e_kd_d, e_kd_o, e_kd_b, e_kd_n, o_add_i, o_add_s, o_add_l, o_add_t, o_sub, o_mul, o_div, o_mod, o_pow, o_lt_i, o_lt_s, o_le_i, o_le_s, o_gt_i, o_ge_i, o_ix_l, o_ix_t, o_ixK, o_len_l, o_len_t, o_len_s, o_int_i, o_int_b, o_abs, o_max, o_min, o_lst_l, o_lst_t, o_tup_l, o_tup_t, List.map_cons, List.map_nil, List.append_nil, List.nil_append, List.cons_append, List.length_cons, List.length_nil, List.getElem?_cons_zero, List.getElem?_cons_succ, List.set_cons_zero, List.set_cons_succ, if_true, if_false, List.replicate_zero, List.replicate_succ, List.length_set, Bool.not_true, Bool.not_false, decide_true, decide_false, true_and, and_true, Nat.reduceAdd, Nat.reduceLT, Nat.reduceLeDiff, reduceIte, reduceCtorEq, c4, st]
      · have := eq_of_beq hq
        rw [ln, z] at this
        simp at this
        omega
    | false =>
      have lt : (ns.length : Int) < many := by
        have := ne_of_beq_false hq
        rw [ln] at this
        omega
      obtain ⟨r, b1, e1, r0, r1, hb1⟩ := take_is (n := k2) hb hk2.1 (by omega)
      obtain ⟨m, rfl⟩ : ∃ m : Nat, r = (m : Int) := ⟨r.toNat, by omega⟩
      have lr : (rngI 0 (1 + (m : Int)).toNat).length = m + 1 := by
        unfold rngI
        rw [List.length_map, List.length_range]
        omega
      obtain ⟨z', o9, b2, e2, hb2, hz', hl'⟩ := spell_loop (a1 := some (.d (.int many))) (a3 := some (.own (strsD ns))) (a4 := some (.d x)) h3 hk (rngI 0 (1 + (m : Int)).toNat) "" o6 b1 hb1 rfl (by
        rw [lr]
        show 0 + (m + 1) < 1000
        omega)
      rw [lr] at hl'
      have hl2 : z'.length = 0 + (m + 1) := hl'
      have nz : nameL z' = true := by
        unfold nameL
        rw [decide_eq_true ⟨by omega, by omega⟩, hz']
        rfl
      have c5 : 5 < [some SV.bx, some (SV.d (.int many)), some (SV.d (.int w)), some (SV.own (strsD ns)), some (SV.d x), o5, o6].length := by show 5 < 7; decide
      have cl : [PyData.int 2, .int 5].length ≤ 100000 := by show 2 ≤ 100000; decide
      have rg : dRng1 (dCons (dOp opAdd (dC (.int 1)) (dCall f__law_take (dCons (dV 0) (dCons (dOp opIx (dLst (dCons (dC (.int 2)) (dCons (dC (.int 5)) dNil))) (dV 2)) dNil)))) dNil) ⟨[some .bx, some (.d (.int many)), some (.d (.int w)), some (.own (strsD ns)), some (.d x), some (.d (.str "")), o6], b⟩ =
          some (rngI 0 (1 + (m : Int)).toNat, ⟨[some .bx, some (.d (.int many)), some (.d (.int w)), some (.own (strsD ns)), some (.d x), some (.d (.str "")), o6], b1⟩) := rng1_eq (by simp only [e_op4, e_op3, e_op2, e_op1, e_op, e_un2, e_un1, e_un, e_seq_nx, e_seq_rt, e_seq_bk, e_seq_ct, e_seq, e_nx, e_bk, e_ct, e_put, e_set1, e_set, e_drop1, e_drop, e_ret1, e_ret, e_retN, e_if_t, e_if_f, e_ifS, e_ifE, e_test1, e_test, e_not1, e_not, e_and_t, e_and_f, e_and, e_or_t, e_or_f, e_or, e_andV_t, e_andV_f, e_andV, e_orV_t, e_orV_f, e_orV, e_notV1, e_notV, e_nil, e_cons2, e_cons1, e_cons, e_tk2, e_tk1, e_tk0, e_tk, e_tup2, e_tup1, e_tup, e_lst2, e_lst1, e_lst, e_da1, e_da0, e_da, e_cb2, e_cb1, e_cb, e_v_d, e_v_o, e_v_b, e_v, e_c, e_h_d, e_h_f, e_h_s, e_h_b, e_at1, e_at, e_lm, e_d_d, e_d_f, e_d_s, e_d_b, e_ts, e_t_d, e_t_f, e_t_s, e_p_d, e_p_l, e_p_t, e_put_d, e_put_f, e_put_b, e_bx1, e_bx, e_ap2, e_ap1, e_ap0, e_apS, e_ap, e_arg2, e_arg1, e_arg0, e_arg_b, e_arg_d, e_arg_s, e_cl3, e_cl2, e_cl1, e_cl, e_rv_d, e_rv_o, e_rv_b, e_df2, e_df_r, e_df_n, e_df, e_om, e_r_d, e_r_f, e_r_s, e_r_b, e_ff_n, e_ff_c, e_ff_b, e_ff_r, e_fg, e_fr1, e_fr, e_nm, e_im, e_it2, e_it1, e_it, e_i_l, e_i_t, e_lc3, e_lc1, e_lc, e_io1, e_io, e_iv2, e_iv_d, e_iv_o, e_iv, e_ch6, e_ch5, e_ch4t, e_ch4f, e_ch3, e_ch2, e_ch1, e_ch, e_so_d, e_so_f, e_pr3, e_pr2, e_pr1, e_pr, e_sl4, e_sl3, e_sl2, e_sl1, e_sl, e_nop, e_pt1, e_pt, o_sl_l, o_sl_t, e_yes, e_wp, e_wp0, e_wp1, e_re0, e_re1, e_kd_d, e_kd_o, e_kd_b, e_kd_n, o_add_i, o_add_s, o_add_l, o_add_t, o_sub, o_mul, o_div, o_mod, o_pow, o_lt_i, o_lt_s, o_le_i, o_le_s, o_gt_i, o_ge_i, o_ix_l, o_ix_t, o_ixK, o_len_l, o_len_t, o_len_s, o_int_i, o_int_b, o_abs, o_max, o_min, o_lst_l, o_lst_t, o_tup_l, o_tup_t, List.map_cons, List.map_nil, List.append_nil, List.nil_append, List.cons_append, List.length_cons, List.length_nil, List.getElem?_cons_zero, List.getElem?_cons_succ, List.set_cons_zero, List.set_cons_succ, if_true, if_false, List.replicate_zero, List.replicate_succ, List.length_set, Bool.not_true, Bool.not_false, decide_true, decide_false, true_and, and_true, Nat.reduceAdd, Nat.reduceLT, Nat.reduceLeDiff, reduceIte, reduceCtorEq, cl, h2, e1]) (by omega)
      have hF : frK (dName 6) spell (dRng1 (dCons (dOp opAdd (dC (.int 1)) (dCall f__law_take (dCons (dV 0) (dCons (dOp opIx (dLst (dCons (dC (.int 2)) (dCons (dC (.int 5)) dNil))) (dV 2)) dNil)))) dNil) ⟨[some .bx, some (.d (.int many)), some (.d (.int w)), some (.own (strsD ns)), some (.d x), some (.d (.str "")), o6], b⟩) = some (.nx, ⟨[some .bx, some (.d (.int many)), some (.d (.int w)), some (.own (strsD ns)), some (.d x), some (.d (.str z')), o9], b2⟩) := by
        rw [rg, e_fr1]
        exact e2
      have ni : opNi (.str z') (.list (strsD ns)) = some (.d (.bool (!decide (z' ∈ ns)))) := ni_strs (name_ok nz) (nms_oks hn)
      have sz : (strsD ns).length < 100000 := by rw [ln]; omega
      by_cases hm2 : z' ∈ ns
      · obtain ⟨ns', o7, o8, o10, b', e3, h4⟩ := name_loop2 h3 hk h2 hk2 hm its ns (some (.d x)) (some (.d (.str z'))) o9 b2 hb2 hn hl
        refine ⟨ns', o7, o8, o10, b', ?_, h4.1, h4.2.1, h4.2.2.1, fun _ => h4.2.2.2 (.inr fun z => by rw [z] at hm2; cases hm2)⟩
        have st : nameBody ⟨[some .bx, some (.d (.int many)), some (.d (.int w)), some (.own (strsD ns)), some (.d x), o5, o6], b⟩ = some (.nx, ⟨[some .bx, some (.d (.int many)), some (.d (.int w)), some (.own (strsD ns)), some (.d x), some (.d (.str z')), o9], b2⟩) := by
          unfold nameBody
          simp only [e_op4, e_op3, e_op2, e_op1, e_op, e_un2, e_un1, e_un, e_seq_nx, e_seq_rt, e_seq_bk, e_seq_ct, e_seq, e_nx, e_bk, e_ct, e_put, e_set1, e_set, e_drop1, e_drop, e_ret1, e_ret, e_retN, e_if_t, e_if_f, e_ifS, e_ifE, e_test1, e_test, e_not1, e_not, e_and_t, e_and_f, e_and, e_or_t, e_or_f, e_or, e_andV_t, e_andV_f, e_andV, e_orV_t, e_orV_f, e_orV, e_notV1, e_notV, e_nil, e_cons2, e_cons1, e_cons, e_tk2, e_tk1, e_tk0, e_tk, e_tup2, e_tup1, e_tup, e_lst2, e_lst1, e_lst, e_da1, e_da0, e_da, e_cb2, e_cb1, e_cb, e_v_d, e_v_o, e_v_b, e_v, e_c, e_h_d, e_h_f, e_h_s, e_h_b, e_at1, e_at, e_lm, e_d_d, e_d_f, e_d_s, e_d_b, e_ts, e_t_d, e_t_f, e_t_s, e_p_d, e_p_l, e_p_t, e_put_d, e_put_f, e_put_b, e_bx1, e_bx, e_ap2, e_ap1, e_ap0, e_apS, e_ap, e_arg2, e_arg1, e_arg0, e_arg_b, e_arg_d, e_arg_s, e_cl3, e_cl2, e_cl1, e_cl, e_rv_d, e_rv_o, e_rv_b, e_df2, e_df_r, e_df_n, e_df, e_om, e_r_d, e_r_f, e_r_s, e_r_b, e_ff_n, e_ff_c, e_ff_b, e_ff_r, e_fg, e_fr1, e_fr, e_nm, e_im, e_it2, e_it1, e_it, e_i_l, e_i_t, e_lc3, e_lc1, e_lc, e_io1, e_io, e_iv2, e_iv_d, e_iv_o, e_iv, e_ch6, e_ch5, e_ch4t, e_ch4f, e_ch3, e_ch2, e_ch1, e_ch, e_so_d, e_so_f, e_pr3, e_pr2, e_pr1, e_pr, e_sl4, e_sl3, e_sl2, e_sl1, e_sl, e_nop, e_pt1, e_pt, o_sl_l, o_sl_t, e_yes, e_wp, e_wp0, e_wp1, e_re0, e_re1, e_kd_d, e_kd_o, e_kd_b, e_kd_n, o_add_i, o_add_s, o_add_l, o_add_t, o_sub, o_mul, o_div, o_mod, o_pow, o_lt_i, o_lt_s, o_le_i, o_le_s, o_gt_i, o_ge_i, o_ix_l, o_ix_t, o_ixK, o_len_l, o_len_t, o_len_s, o_int_i, o_int_b, o_abs, o_max, o_min, o_lst_l, o_lst_t, o_tup_l, o_tup_t, List.map_cons, List.map_nil, List.append_nil, List.nil_append, List.cons_append, List.length_cons, List.length_nil, List.getElem?_cons_zero, List.getElem?_cons_succ, List.set_cons_zero, List.set_cons_succ, if_true, if_false, List.replicate_zero, List.replicate_succ, List.length_set, Bool.not_true, Bool.not_false, decide_true, decide_false, true_and, and_true, Nat.reduceAdd, Nat.reduceLT, Nat.reduceLeDiff, reduceIte, reduceCtorEq, eq_int, hq, c5, hF, ni, hm2]
        simp only [e_op4, e_op3, e_op2, e_op1, e_op, e_un2, e_un1, e_un, e_seq_nx, e_seq_rt, e_seq_bk, e_seq_ct, e_seq, e_nx, e_bk, e_ct, e_put, e_set1, e_set, e_drop1, e_drop, e_ret1, e_ret, e_retN, e_if_t, e_if_f, e_ifS, e_ifE, e_test1, e_test, e_not1, e_not, e_and_t, e_and_f, e_and, e_or_t, e_or_f, e_or, e_andV_t, e_andV_f, e_andV, e_orV_t, e_orV_f, e_orV, e_notV1, e_notV, e_nil, e_cons2, e_cons1, e_cons, e_tk2, e_tk1, e_tk0, e_tk, e_tup2, e_tup1, e_tup, e_lst2, e_lst1, e_lst, e_da1, e_da0, e_da, e_cb2, e_cb1, e_cb, e_v_d, e_v_o, e_v_b, e_v, e_c, e_h_d, e_h_f, e_h_s, e_h_b, e_at1, e_at, e_lm, e_d_d, e_d_f, e_d_s, e_d_b, e_ts, e_t_d, e_t_f, e_t_s, e_p_d, e_p_l, e_p_t, e_put_d, e_put_f, e_put_b, e_bx1, e_bx, e_ap2, e_ap1, e_ap0, e_apS, e_ap, e_arg2, e_arg1, e_arg0, e_arg_b, e_arg_d, e_arg_s, e_cl3, e_cl2, e_cl1, e_cl, e_rv_d, e_rv_o, e_rv_b, e_df2, e_df_r, e_df_n, e_df, e_om, e_r_d, e_r_f, e_r_s, e_r_b, e_ff_n, e_ff_c, e_ff_b, e_ff_r, e_fg, e_fr1, e_fr, e_nm, e_im, e_it2, e_it1, e_it, e_i_l, e_i_t, e_lc3, e_lc1, e_lc, e_io1, e_io, e_iv2, e_iv_d, e_iv_o, e_iv, e_ch6, e_ch5, e_ch4t, e_ch4f, e_ch3, e_ch2, e_ch1, e_ch, e_so_d, e_so_f, e_pr3, e_pr2, e_pr1, e_pr, e_sl4, e_sl3, e_sl2, e_sl1, e_sl, e_nop, e_pt1, e_pt, o_sl_l, o_sl_t, e_yes, e_wp, e_wp0, e_wp1, e_re0, e_re1, e_kd_d, e_kd_o, e_kd_b, e_kd_n, o_add_i, o_add_s, o_add_l, o_add_t, o_sub, o_mul, o_div, o_mod, o_pow, o_lt_i, o_lt_s, o_le_i, o_le_s, o_gt_i, o_ge_i, o_ix_l, o_ix_t, o_ixK, o_len_l, o_len_t, o_len_s, o_int_i, o_int_b, o_abs, o_max, o_min, o_lst_l, o_lst_t, o_tup_l, o_tup_t, List.map_cons, List.map_nil, List.append_nil, List.nil_append, List.cons_append, List.length_cons, List.length_nil, List.getElem?_cons_zero, List.getElem?_cons_succ, List.set_cons_zero, List.set_cons_succ, if_true, if_false, List.replicate_zero, List.replicate_succ, List.length_set, Bool.not_true, Bool.not_false, decide_true, decide_false, true_and, and_true, Nat.reduceAdd, Nat.reduceLT, Nat.reduceLeDiff, reduceIte, reduceCtorEq, c4, st]
        exact e3
      · obtain ⟨ns', o7, o8, o10, b', e3, h4⟩ := name_loop2 h3 hk h2 hk2 hm its (ns ++ [z']) (some (.d x)) (some (.d (.str z'))) o9 b2 hb2 ⟨fun y m => by
            rcases List.mem_append.mp m with m | m
            · exact hn.1 y m
            · rw [List.mem_singleton.mp m]; exact nz, List.nodup_append.mpr ⟨hn.2, (by simp), fun a ha c hc e => by
              rw [List.mem_singleton.mp hc] at e
              rw [e] at ha
              exact hm2 ha⟩⟩ (by rw [List.length_append]; show ((ns.length + 1 : Nat) : Int) ≤ many; omega)
        refine ⟨ns', o7, o8, o10, b', ?_, h4.1, h4.2.1, h4.2.2.1, fun _ => h4.2.2.2 (.inr (by simp))⟩
        have st : nameBody ⟨[some .bx, some (.d (.int many)), some (.d (.int w)), some (.own (strsD ns)), some (.d x), o5, o6], b⟩ = some (.nx, ⟨[some .bx, some (.d (.int many)), some (.d (.int w)), some (.own (strsD ns ++ [.str z'])), some (.d x), some (.d (.str z')), o9], b2⟩) := by
          unfold nameBody
          simp only [e_op4, e_op3, e_op2, e_op1, e_op, e_un2, e_un1, e_un, e_seq_nx, e_seq_rt, e_seq_bk, e_seq_ct, e_seq, e_nx, e_bk, e_ct, e_put, e_set1, e_set, e_drop1, e_drop, e_ret1, e_ret, e_retN, e_if_t, e_if_f, e_ifS, e_ifE, e_test1, e_test, e_not1, e_not, e_and_t, e_and_f, e_and, e_or_t, e_or_f, e_or, e_andV_t, e_andV_f, e_andV, e_orV_t, e_orV_f, e_orV, e_notV1, e_notV, e_nil, e_cons2, e_cons1, e_cons, e_tk2, e_tk1, e_tk0, e_tk, e_tup2, e_tup1, e_tup, e_lst2, e_lst1, e_lst, e_da1, e_da0, e_da, e_cb2, e_cb1, e_cb, e_v_d, e_v_o, e_v_b, e_v, e_c, e_h_d, e_h_f, e_h_s, e_h_b, e_at1, e_at, e_lm, e_d_d, e_d_f, e_d_s, e_d_b, e_ts, e_t_d, e_t_f, e_t_s, e_p_d, e_p_l, e_p_t, e_put_d, e_put_f, e_put_b, e_bx1, e_bx, e_ap2, e_ap1, e_ap0, e_apS, e_ap, e_arg2, e_arg1, e_arg0, e_arg_b, e_arg_d, e_arg_s, e_cl3, e_cl2, e_cl1, e_cl, e_rv_d, e_rv_o, e_rv_b, e_df2, e_df_r, e_df_n, e_df, e_om, e_r_d, e_r_f, e_r_s, e_r_b, e_ff_n, e_ff_c, e_ff_b, e_ff_r, e_fg, e_fr1, e_fr, e_nm, e_im, e_it2, e_it1, e_it, e_i_l, e_i_t, e_lc3, e_lc1, e_lc, e_io1, e_io, e_iv2, e_iv_d, e_iv_o, e_iv, e_ch6, e_ch5, e_ch4t, e_ch4f, e_ch3, e_ch2, e_ch1, e_ch, e_so_d, e_so_f, e_pr3, e_pr2, e_pr1, e_pr, e_sl4, e_sl3, e_sl2, e_sl1, e_sl, e_nop, e_pt1, e_pt, o_sl_l, o_sl_t, e_yes, e_wp, e_wp0, e_wp1, e_re0, e_re1, e_kd_d, e_kd_o, e_kd_b, e_kd_n, o_add_i, o_add_s, o_add_l, o_add_t, o_sub, o_mul, o_div, o_mod, o_pow, o_lt_i, o_lt_s, o_le_i, o_le_s, o_gt_i, o_ge_i, o_ix_l, o_ix_t, o_ixK, o_len_l, o_len_t, o_len_s, o_int_i, o_int_b, o_abs, o_max, o_min, o_lst_l, o_lst_t, o_tup_l, o_tup_t, List.map_cons, List.map_nil, List.append_nil, List.nil_append, List.cons_append, List.length_cons, List.length_nil, List.getElem?_cons_zero, List.getElem?_cons_succ, List.set_cons_zero, List.set_cons_succ, if_true, if_false, List.replicate_zero, List.replicate_succ, List.length_set, Bool.not_true, Bool.not_false, decide_true, decide_false, true_and, and_true, Nat.reduceAdd, Nat.reduceLT, Nat.reduceLeDiff, reduceIte, reduceCtorEq, eq_int, hq, c5, hF, ni, hm2, sz]
        simp only [e_op4, e_op3, e_op2, e_op1, e_op, e_un2, e_un1, e_un, e_seq_nx, e_seq_rt, e_seq_bk, e_seq_ct, e_seq, e_nx, e_bk, e_ct, e_put, e_set1, e_set, e_drop1, e_drop, e_ret1, e_ret, e_retN, e_if_t, e_if_f, e_ifS, e_ifE, e_test1, e_test, e_not1, e_not, e_and_t, e_and_f, e_and, e_or_t, e_or_f, e_or, e_andV_t, e_andV_f, e_andV, e_orV_t, e_orV_f, e_orV, e_notV1, e_notV, e_nil, e_cons2, e_cons1, e_cons, e_tk2, e_tk1, e_tk0, e_tk, e_tup2, e_tup1, e_tup, e_lst2, e_lst1, e_lst, e_da1, e_da0, e_da, e_cb2, e_cb1, e_cb, e_v_d, e_v_o, e_v_b, e_v, e_c, e_h_d, e_h_f, e_h_s, e_h_b, e_at1, e_at, e_lm, e_d_d, e_d_f, e_d_s, e_d_b, e_ts, e_t_d, e_t_f, e_t_s, e_p_d, e_p_l, e_p_t, e_put_d, e_put_f, e_put_b, e_bx1, e_bx, e_ap2, e_ap1, e_ap0, e_apS, e_ap, e_arg2, e_arg1, e_arg0, e_arg_b, e_arg_d, e_arg_s, e_cl3, e_cl2, e_cl1, e_cl, e_rv_d, e_rv_o, e_rv_b, e_df2, e_df_r, e_df_n, e_df, e_om, e_r_d, e_r_f, e_r_s, e_r_b, e_ff_n, e_ff_c, e_ff_b, e_ff_r, e_fg, e_fr1, e_fr, e_nm, e_im, e_it2, e_it1, e_it, e_i_l, e_i_t, e_lc3, e_lc1, e_lc, e_io1, e_io, e_iv2, e_iv_d, e_iv_o, e_iv, e_ch6, e_ch5, e_ch4t, e_ch4f, e_ch3, e_ch2, e_ch1, e_ch, e_so_d, e_so_f, e_pr3, e_pr2, e_pr1, e_pr, e_sl4, e_sl3, e_sl2, e_sl1, e_sl, e_nop, e_pt1, e_pt, o_sl_l, o_sl_t, e_yes, e_wp, e_wp0, e_wp1, e_re0, e_re1, e_kd_d, e_kd_o, e_kd_b, e_kd_n, o_add_i, o_add_s, o_add_l, o_add_t, o_sub, o_mul, o_div, o_mod, o_pow, o_lt_i, o_lt_s, o_le_i, o_le_s, o_gt_i, o_ge_i, o_ix_l, o_ix_t, o_ixK, o_len_l, o_len_t, o_len_s, o_int_i, o_int_b, o_abs, o_max, o_min, o_lst_l, o_lst_t, o_tup_l, o_tup_t, List.map_cons, List.map_nil, List.append_nil, List.nil_append, List.cons_append, List.length_cons, List.length_nil, List.getElem?_cons_zero, List.getElem?_cons_succ, List.set_cons_zero, List.set_cons_succ, if_true, if_false, List.replicate_zero, List.replicate_succ, List.length_set, Bool.not_true, Bool.not_false, decide_true, decide_false, true_and, and_true, Nat.reduceAdd, Nat.reduceLT, Nat.reduceLeDiff, reduceIte, reduceCtorEq, c4, st]
        have ea : strsD (ns ++ [z']) = strsD ns ++ [.str z'] := List.map_append
        rw [ea] at e3
        exact e3
theorem names_is {b : List Int} {many : Int} (hb : Bx b) (hm : 1 ≤ many ∧ many < 1000) : ∃ ns b', f__law_names [.bx, .d (.int many)] b = some (.own (strsD ns), b') ∧ Bx b' ∧ Nms ns ∧ (ns.length : Int) ≤ many ∧ ns ≠ [] ∧ ns.Pairwise (fun a c => sLe a c = true) := by
  obtain ⟨w, b1, e1, w0, w1, hb1⟩ := take_is (n := 2) hb (by decide) (by decide)
  have tab : ∃ k k2 : Int, atI [PyData.int 3, .int 26] w = some (.int k) ∧ (0 < k ∧ k ≤ 26) ∧ atI [PyData.int 2, .int 5] w = some (.int k2) ∧ (0 < k2 ∧ k2 ≤ 5) := by
    rcases (by omega : w = 0 ∨ w = 1) with rfl | rfl
    · exact ⟨3, 2, rfl, by decide, rfl, by decide⟩
    · exact ⟨26, 5, rfl, by decide, rfl, by decide⟩
  obtain ⟨k, k2, h3, hk, h2, hk2⟩ := tab
  have its : rngI 0 (4 * many).toNat ≠ [] := fun z => by
    have := congrArg List.length z
    unfold rngI at this
    rw [List.length_map, List.length_range, List.length_nil] at this
    omega
  obtain ⟨ns, o7, o8, o9, b2, e2, hb2, hn, hl, hne⟩ := name_loop2 h3 hk h2 hk2 hm (rngI 0 (4 * many).toNat) [] none none none b1 hb1 ⟨fun z m => absurd m (by simp), List.nodup_nil⟩ (by show (0 : Int) ≤ many; omega)
  have e2' : forFold (dName 4) nameBody (rngI 0 (4 * many).toNat) ⟨[some .bx, some (.d (.int many)), some (.d (.int w)), some (.own []), none, none, none], b1⟩ = _ := e2
  have m4 : (-(2 ^ 64) < (4 : Int) ∧ (4 : Int) < 2 ^ 64) ∨ (-(2 ^ 64) < many ∧ many < 2 ^ 64) := .inl (by decide)
  have rg : dRng1 (dCons (dOp opMul (dC (.int 4)) (dV 1)) dNil) ⟨[some .bx, some (.d (.int many)), some (.d (.int w)), some (.own []), none, none, none], b1⟩ = some (rngI 0 (4 * many).toNat, ⟨[some .bx, some (.d (.int many)), some (.d (.int w)), some (.own []), none, none, none], b1⟩) :=
    rng1_eq (by simp only [e_op4, e_op3, e_op2, e_op1, e_op, e_un2, e_un1, e_un, e_seq_nx, e_seq_rt, e_seq_bk, e_seq_ct, e_seq, e_nx, e_bk, e_ct, e_put, e_set1, e_set, e_drop1, e_drop, e_ret1, e_ret, e_retN, e_if_t, e_if_f, e_ifS, e_ifE, e_test1, e_test, e_not1, e_not, e_and_t, e_and_f, e_and, e_or_t, e_or_f, e_or, e_andV_t, e_andV_f, e_andV, e_orV_t, e_orV_f, e_orV, e_notV1, e_notV, e_nil, e_cons2, e_cons1, e_cons, e_tk2, e_tk1, e_tk0, e_tk, e_tup2, e_tup1, e_tup, e_lst2, e_lst1, e_lst, e_da1, e_da0, e_da, e_cb2, e_cb1, e_cb, e_v_d, e_v_o, e_v_b, e_v, e_c, e_h_d, e_h_f, e_h_s, e_h_b, e_at1, e_at, e_lm, e_d_d, e_d_f, e_d_s, e_d_b, e_ts, e_t_d, e_t_f, e_t_s, e_p_d, e_p_l, e_p_t, e_put_d, e_put_f, e_put_b, e_bx1, e_bx, e_ap2, e_ap1, e_ap0, e_apS, e_ap, e_arg2, e_arg1, e_arg0, e_arg_b, e_arg_d, e_arg_s, e_cl3, e_cl2, e_cl1, e_cl, e_rv_d, e_rv_o, e_rv_b, e_df2, e_df_r, e_df_n, e_df, e_om, e_r_d, e_r_f, e_r_s, e_r_b, e_ff_n, e_ff_c, e_ff_b, e_ff_r, e_fg, e_fr1, e_fr, e_nm, e_im, e_it2, e_it1, e_it, e_i_l, e_i_t, e_lc3, e_lc1, e_lc, e_io1, e_io, e_iv2, e_iv_d, e_iv_o, e_iv, e_ch6, e_ch5, e_ch4t, e_ch4f, e_ch3, e_ch2, e_ch1, e_ch, e_so_d, e_so_f, e_pr3, e_pr2, e_pr1, e_pr, e_sl4, e_sl3, e_sl2, e_sl1, e_sl, e_nop, e_pt1, e_pt, o_sl_l, o_sl_t, e_yes, e_wp, e_wp0, e_wp1, e_re0, e_re1, e_kd_d, e_kd_o, e_kd_b, e_kd_n, o_add_i, o_add_s, o_add_l, o_add_t, o_sub, o_mul, o_div, o_mod, o_pow, o_lt_i, o_lt_s, o_le_i, o_le_s, o_gt_i, o_ge_i, o_ix_l, o_ix_t, o_ixK, o_len_l, o_len_t, o_len_s, o_int_i, o_int_b, o_abs, o_max, o_min, o_lst_l, o_lst_t, o_tup_l, o_tup_t, List.map_cons, List.map_nil, List.append_nil, List.nil_append, List.cons_append, List.length_cons, List.length_nil, List.getElem?_cons_zero, List.getElem?_cons_succ, List.set_cons_zero, List.set_cons_succ, if_true, if_false, List.replicate_zero, List.replicate_succ, List.length_set, Bool.not_true, Bool.not_false, decide_true, decide_false, true_and, and_true, Nat.reduceAdd, Nat.reduceLT, Nat.reduceLeDiff, reduceIte, reduceCtorEq, m4]) (by omega)
  have hF : frK (dName 4) nameBody (dRng1 (dCons (dOp opMul (dC (.int 4)) (dV 1)) dNil) ⟨[some .bx, some (.d (.int many)), some (.d (.int w)), some (.own []), none, none, none], b1⟩) = some (.nx, ⟨[some .bx, some (.d (.int many)), some (.d (.int w)), some (.own (strsD ns)), o7, o8, o9], b2⟩) := by
    rw [rg, e_fr1]
    exact e2
  refine ⟨sortS ns, b2, ?_, hb2, ⟨fun z m => hn.1 z ((sortS_perm ns).mem_iff.mp m), (sortS_perm ns).nodup_iff.mpr hn.2⟩, by rw [(sortS_perm ns).length_eq]; exact hl, fun z => ?_, sortS_sorted ns⟩
  · have c0 : ([] : List PyData).length ≤ 100000 := by show 0 ≤ 100000; decide
    have hp : (2 : Nat) ≠ 3 ∧ 2 < [some SV.bx, some (SV.d (.int many)), none, none, none, none, none].length ∧ 3 < [some SV.bx, some (SV.d (.int many)), none, none, none, none, none].length := ⟨by decide, by show 2 < 7; decide, by show 3 < 7; decide⟩
    unfold nameBody spell signs at hF
    unfold f__law_names g__law_names
    simp only [e_op4, e_op3, e_op2, e_op1, e_op, e_un2, e_un1, e_un, e_seq_nx, e_seq_rt, e_seq_bk, e_seq_ct, e_seq, e_nx, e_bk, e_ct, e_put, e_set1, e_set, e_drop1, e_drop, e_ret1, e_ret, e_retN, e_if_t, e_if_f, e_ifS, e_ifE, e_test1, e_test, e_not1, e_not, e_and_t, e_and_f, e_and, e_or_t, e_or_f, e_or, e_andV_t, e_andV_f, e_andV, e_orV_t, e_orV_f, e_orV, e_notV1, e_notV, e_nil, e_cons2, e_cons1, e_cons, e_tk2, e_tk1, e_tk0, e_tk, e_tup2, e_tup1, e_tup, e_lst2, e_lst1, e_lst, e_da1, e_da0, e_da, e_cb2, e_cb1, e_cb, e_v_d, e_v_o, e_v_b, e_v, e_c, e_h_d, e_h_f, e_h_s, e_h_b, e_at1, e_at, e_lm, e_d_d, e_d_f, e_d_s, e_d_b, e_ts, e_t_d, e_t_f, e_t_s, e_p_d, e_p_l, e_p_t, e_put_d, e_put_f, e_put_b, e_bx1, e_bx, e_ap2, e_ap1, e_ap0, e_apS, e_ap, e_arg2, e_arg1, e_arg0, e_arg_b, e_arg_d, e_arg_s, e_cl3, e_cl2, e_cl1, e_cl, e_rv_d, e_rv_o, e_rv_b, e_df2, e_df_r, e_df_n, e_df, e_om, e_r_d, e_r_f, e_r_s, e_r_b, e_ff_n, e_ff_c, e_ff_b, e_ff_r, e_fg, e_fr1, e_fr, e_nm, e_im, e_it2, e_it1, e_it, e_i_l, e_i_t, e_lc3, e_lc1, e_lc, e_io1, e_io, e_iv2, e_iv_d, e_iv_o, e_iv, e_ch6, e_ch5, e_ch4t, e_ch4f, e_ch3, e_ch2, e_ch1, e_ch, e_so_d, e_so_f, e_pr3, e_pr2, e_pr1, e_pr, e_sl4, e_sl3, e_sl2, e_sl1, e_sl, e_nop, e_pt1, e_pt, o_sl_l, o_sl_t, e_yes, e_wp, e_wp0, e_wp1, e_re0, e_re1, e_kd_d, e_kd_o, e_kd_b, e_kd_n, o_add_i, o_add_s, o_add_l, o_add_t, o_sub, o_mul, o_div, o_mod, o_pow, o_lt_i, o_lt_s, o_le_i, o_le_s, o_gt_i, o_ge_i, o_ix_l, o_ix_t, o_ixK, o_len_l, o_len_t, o_len_s, o_int_i, o_int_b, o_abs, o_max, o_min, o_lst_l, o_lst_t, o_tup_l, o_tup_t, List.map_cons, List.map_nil, List.append_nil, List.nil_append, List.cons_append, List.length_cons, List.length_nil, List.getElem?_cons_zero, List.getElem?_cons_succ, List.set_cons_zero, List.set_cons_succ, if_true, if_false, List.replicate_zero, List.replicate_succ, List.length_set, Bool.not_true, Bool.not_false, decide_true, decide_false, true_and, and_true, Nat.reduceAdd, Nat.reduceLT, Nat.reduceLeDiff, reduceIte, reduceCtorEq, e1, c0, ne_eq, Nat.reduceEqDiff, not_false_eq_true, hF, sort_strs_op]
  · have := (sortS_perm ns).length_eq
    rw [z, List.length_nil] at this
    exact hne (.inl its) (List.eq_nil_of_length_eq_zero this.symm)
end XN

set_option maxRecDepth 100000
set_option maxHeartbeats 4000000
/-! the law's box -/
namespace XN
open PySem PySem.Spec PyProof.Rows PySem.W L2 Evl XD

noncomputable def boxEnd : DS := dRet (dLst (dCons (dOp opIx (dLst (dCons (dC (.int 0)) (dCons (dV 2) dNil))) (dCB opInt (dCons (dOp opGe (dV 2) (dOp opPow (dC (.int 10)) (dC (.int 18)))) dNil))) (dCons (dOp opAdd (dOp opMod (dCB opInt (dCons (dOp opAdd (dOp opAdd (dOp opMul (dOp opMod (dCB opInt (dCons (dV 2) dNil)) (dC (.int 2147483629))) (dC (.int 48271))) (dOp opMul (dC (.int 35311)) (dV 1))) (dC (.int 977))) dNil)) (dC (.int 2147483629))) (dC (.int 1))) (dCons (dC (.int 0)) dNil))))
theorem mul_r (a : Int) {c : Int} (h : -(2 ^ 64) < c ∧ c < 2 ^ 64) : (-(2 ^ 64) < a ∧ a < 2 ^ 64) ∨ (-(2 ^ 64) < c ∧ c < 2 ^ 64) := .inr h
theorem mul_l (a : Int) {c : Int} (h : -(2 ^ 64) < c ∧ c < 2 ^ 64) : (-(2 ^ 64) < c ∧ c < 2 ^ 64) ∨ (-(2 ^ 64) < a ∧ a < 2 ^ 64) := .inl h
theorem box_end {a0 : Option SV} {k cell : Int} {b : List Int} : ∃ u v : Int, boxEnd ⟨[a0, some (.d (.int k)), some (.d (.int cell))], b⟩ = some (.rt (.fresh [.int u, .int v, .int 0]), ⟨[a0, some (.d (.int k)), some (.d (.int cell))], b⟩) := by
  have c2 : (0 : Int) < 2147483629 := by decide
  have m1 := fun a => mul_r a (c := 48271) (by decide)
  have m2 := fun a => mul_l a (c := 35311) (by decide)
  have cp : (0 : Int) ≤ 18 ∧ (18 : Int) ≤ 1000 ∧ (10 : Int).natAbs < 2 ^ 64 := by decide
  have cl : ∀ a c : PyData, [a, c].length ≤ 100000 := fun _ _ => by show 2 ≤ 100000; decide
  have c3 : ∀ a c d : PyData, [a, c, d].length ≤ 100000 := fun _ _ _ => by show 3 ≤ 100000; decide
  have p18 : opPow (.int 10) (.int 18) = some (.d (.int ((10 : Int) ^ (18 : Int).toNat))) := by
    show (if (0 : Int) ≤ 18 ∧ (18 : Int) ≤ 1000 ∧ (10 : Int).natAbs < 2 ^ 64 then some (PV.d (.int ((10 : Int) ^ (18 : Int).toNat))) else none) = _
    exact if_pos cp
  generalize (10 : Int) ^ (18 : Int).toNat = big at p18
  have i0 : atI [PyData.int 0, .int cell] 0 = some (.int 0) := rfl
  have i1 : atI [PyData.int 0, .int cell] 1 = some (.int cell) := rfl
  have tt : (if true = true then (1 : Int) else 0) = 1 := rfl
  have ff : (if false = true then (1 : Int) else 0) = 0 := rfl
  have ge : opGe (.int cell) (.int big) = some (.d (.bool (decide (big ≤ cell)))) := rfl
  unfold boxEnd
  cases hb : decide (big ≤ cell) with
  | true =>
    rw [hb] at ge
    refine ⟨cell, (cell % 2147483629 * 48271 + 35311 * k + 977) % 2147483629 + 1, ?_⟩
    simp only [e_op4, e_op3, e_op2, e_op1, e_op, e_un2, e_un1, e_un, e_seq_nx, e_seq_rt, e_seq_bk, e_seq_ct, e_seq, e_nx, e_bk, e_ct, e_put, e_set1, e_set, e_drop1, e_drop, e_ret1, e_ret, e_retN, e_if_t, e_if_f, e_ifS, e_ifE, e_test1, e_test, e_not1, e_not, e_and_t, e_and_f, e_and, e_or_t, e_or_f, e_or, e_andV_t, e_andV_f, e_andV, e_orV_t, e_orV_f, e_orV, e_notV1, e_notV, e_nil, e_cons2, e_cons1, e_cons, e_tk2, e_tk1, e_tk0, e_tk, e_tup2, e_tup1, e_tup, e_lst2, e_lst1, e_lst, e_da1, e_da0, e_da, e_cb2, e_cb1, e_cb, e_v_d, e_v_o, e_v_b, e_v, e_c, e_h_d, e_h_f, e_h_s, e_h_b, e_at1, e_at, e_lm, e_d_d, e_d_f, e_d_s, e_d_b, e_ts, e_t_d, e_t_f, e_t_s, e_p_d, e_p_l, e_p_t, e_put_d, e_put_f, e_put_b, e_bx1, e_bx, e_ap2, e_ap1, e_ap0, e_apS, e_ap, e_arg2, e_arg1, e_arg0, e_arg_b, e_arg_d, e_arg_s, e_cl3, e_cl2, e_cl1, e_cl, e_rv_d, e_rv_o, e_rv_b, e_df2, e_df_r, e_df_n, e_df, e_om, e_r_d, e_r_f, e_r_s, e_r_b, e_ff_n, e_ff_c, e_ff_b, e_ff_r, e_fg, e_fr1, e_fr, e_nm, e_im, e_it2, e_it1, e_it, e_i_l, e_i_t, e_lc3, e_lc1, e_lc, e_io1, e_io, e_iv2, e_iv_d, e_iv_o, e_iv, e_ch6, e_ch5, e_ch4t, e_ch4f, e_ch3, e_ch2, e_ch1, e_ch, e_so_d, e_so_f, e_pr3, e_pr2, e_pr1, e_pr, e_sl4, e_sl3, e_sl2, e_sl1, e_sl, e_nop, e_pt1, e_pt, o_sl_l, o_sl_t, e_yes, e_wp, e_wp0, e_wp1, e_re0, e_re1, e_kd_d, e_kd_o, e_kd_b, e_kd_n, o_add_i, o_add_s, o_add_l, o_add_t, o_sub, o_mul, o_div, o_mod, o_pow, o_lt_i, o_lt_s, o_le_i, o_le_s, o_gt_i, o_ge_i, o_ix_l, o_ix_t, o_ixK, o_len_l, o_len_t, o_len_s, o_int_i, o_int_b, o_abs, o_max, o_min, o_lst_l, o_lst_t, o_tup_l, o_tup_t, List.map_cons, List.map_nil, List.append_nil, List.nil_append, List.cons_append, List.length_cons, List.length_nil, List.getElem?_cons_zero, List.getElem?_cons_succ, List.set_cons_zero, List.set_cons_succ, if_true, if_false, List.replicate_zero, List.replicate_succ, List.length_set, Bool.not_true, Bool.not_false, decide_true, decide_false, true_and, and_true, Nat.reduceAdd, Nat.reduceLT, Nat.reduceLeDiff, reduceIte, reduceCtorEq, c2, m1, m2, cl, c3, p18, i0, i1, ge, tt, ff]
  | false =>
    rw [hb] at ge
    refine ⟨0, (cell % 2147483629 * 48271 + 35311 * k + 977) % 2147483629 + 1, ?_⟩
    simp only [e_op4, e_op3, e_op2, e_op1, e_op, e_un2, e_un1, e_un, e_seq_nx, e_seq_rt, e_seq_bk, e_seq_ct, e_seq, e_nx, e_bk, e_ct, e_put, e_set1, e_set, e_drop1, e_drop, e_ret1, e_ret, e_retN, e_if_t, e_if_f, e_ifS, e_ifE, e_test1, e_test, e_not1, e_not, e_and_t, e_and_f, e_and, e_or_t, e_or_f, e_or, e_andV_t, e_andV_f, e_andV, e_orV_t, e_orV_f, e_orV, e_notV1, e_notV, e_nil, e_cons2, e_cons1, e_cons, e_tk2, e_tk1, e_tk0, e_tk, e_tup2, e_tup1, e_tup, e_lst2, e_lst1, e_lst, e_da1, e_da0, e_da, e_cb2, e_cb1, e_cb, e_v_d, e_v_o, e_v_b, e_v, e_c, e_h_d, e_h_f, e_h_s, e_h_b, e_at1, e_at, e_lm, e_d_d, e_d_f, e_d_s, e_d_b, e_ts, e_t_d, e_t_f, e_t_s, e_p_d, e_p_l, e_p_t, e_put_d, e_put_f, e_put_b, e_bx1, e_bx, e_ap2, e_ap1, e_ap0, e_apS, e_ap, e_arg2, e_arg1, e_arg0, e_arg_b, e_arg_d, e_arg_s, e_cl3, e_cl2, e_cl1, e_cl, e_rv_d, e_rv_o, e_rv_b, e_df2, e_df_r, e_df_n, e_df, e_om, e_r_d, e_r_f, e_r_s, e_r_b, e_ff_n, e_ff_c, e_ff_b, e_ff_r, e_fg, e_fr1, e_fr, e_nm, e_im, e_it2, e_it1, e_it, e_i_l, e_i_t, e_lc3, e_lc1, e_lc, e_io1, e_io, e_iv2, e_iv_d, e_iv_o, e_iv, e_ch6, e_ch5, e_ch4t, e_ch4f, e_ch3, e_ch2, e_ch1, e_ch, e_so_d, e_so_f, e_pr3, e_pr2, e_pr1, e_pr, e_sl4, e_sl3, e_sl2, e_sl1, e_sl, e_nop, e_pt1, e_pt, o_sl_l, o_sl_t, e_yes, e_wp, e_wp0, e_wp1, e_re0, e_re1, e_kd_d, e_kd_o, e_kd_b, e_kd_n, o_add_i, o_add_s, o_add_l, o_add_t, o_sub, o_mul, o_div, o_mod, o_pow, o_lt_i, o_lt_s, o_le_i, o_le_s, o_gt_i, o_ge_i, o_ix_l, o_ix_t, o_ixK, o_len_l, o_len_t, o_len_s, o_int_i, o_int_b, o_abs, o_max, o_min, o_lst_l, o_lst_t, o_tup_l, o_tup_t, List.map_cons, List.map_nil, List.append_nil, List.nil_append, List.cons_append, List.length_cons, List.length_nil, List.getElem?_cons_zero, List.getElem?_cons_succ, List.set_cons_zero, List.set_cons_succ, if_true, if_false, List.replicate_zero, List.replicate_succ, List.length_set, Bool.not_true, Bool.not_false, decide_true, decide_false, true_and, and_true, Nat.reduceAdd, Nat.reduceLT, Nat.reduceLeDiff, reduceIte, reduceCtorEq, c2, m1, m2, cl, c3, p18, i0, i1, ge, tt, ff]
theorem box_is {ns : List Int} {k : Int} (h0 : 0 ≤ k) (h9 : k < 1000) (hl : ns.length < 1000) : ∃ u v : Int, f__law_box [.d (.list (ns.map .int)), .d (.int k)] [] = some (.own [.int u, .int v, .int 0], []) := by
  have c2 : (0 : Int) < 2147483629 := by decide
  have m1 := fun a => mul_r a (c := 60719) (by decide)
  have m2 := fun a => mul_l a (c := 7717) (by decide)
  have ln : (ns.map PyData.int).length = ns.length := List.length_map _
  have at_ : ∀ {i : Int}, 0 ≤ i → i < ns.length → ∃ n : Int, atI (ns.map PyData.int) i = some (.int n) := by
    intro i hi hn
    obtain ⟨j, rfl⟩ : ∃ j : Nat, i = (j : Int) := ⟨i.toNat, by omega⟩
    have hj : j < ns.length := by omega
    refine ⟨ns[j], at_nat ?_⟩
    rw [List.getElem?_map, List.getElem?_eq_getElem hj]
    rfl
  have c0 : (0 : Int) < (ns.length : Int) ∨ ¬ (0 : Int) < (ns.length : Int) := Decidable.em _
  have hB : ∃ cell : Int, dIfS (dTest (dOp opLt (dV 1) (dCB opLen (dCons (dV 0) dNil)))) (dSet 2 (dCB opAbs (dCons (dOp opIx (dV 0) (dV 1)) dNil))) (dIfS (dTest (dOp opGt (dCB opLen (dCons (dV 0) dNil)) (dC (.int 0)))) (dSet 2 (dOp opAdd (dV 2) (dOp opMul (dOp opMod (dCB opInt (dCons (dCB opAbs (dCons (dOp opIx (dV 0) (dOp opMod (dCB opInt (dCons (dV 1) dNil)) (dCB opLen (dCons (dV 0) dNil)))) dNil)) dNil)) (dC (.int 2147483629))) (dC (.int 60719))))) dNx)
      ⟨[some (.d (.list (ns.map .int))), some (.d (.int k)), some (.d (.int (7717 * k + 41843)))], []⟩ = some (.nx, ⟨[some (.d (.list (ns.map .int))), some (.d (.int k)), some (.d (.int cell))], []⟩) := by
    by_cases hk : k < (ns.length : Int)
    · obtain ⟨n, hn⟩ := at_ h0 hk
      have hk' : decide (k < (((ns.map PyData.int).length : Nat) : Int)) = true := by rw [ln]; exact decide_eq_true hk
      refine ⟨if n < 0 then -n else n, ?_⟩
      simp only [e_op4, e_op3, e_op2, e_op1, e_op, e_un2, e_un1, e_un, e_seq_nx, e_seq_rt, e_seq_bk, e_seq_ct, e_seq, e_nx, e_bk, e_ct, e_put, e_set1, e_set, e_drop1, e_drop, e_ret1, e_ret, e_retN, e_if_t, e_if_f, e_ifS, e_ifE, e_test1, e_test, e_not1, e_not, e_and_t, e_and_f, e_and, e_or_t, e_or_f, e_or, e_andV_t, e_andV_f, e_andV, e_orV_t, e_orV_f, e_orV, e_notV1, e_notV, e_nil, e_cons2, e_cons1, e_cons, e_tk2, e_tk1, e_tk0, e_tk, e_tup2, e_tup1, e_tup, e_lst2, e_lst1, e_lst, e_da1, e_da0, e_da, e_cb2, e_cb1, e_cb, e_v_d, e_v_o, e_v_b, e_v, e_c, e_h_d, e_h_f, e_h_s, e_h_b, e_at1, e_at, e_lm, e_d_d, e_d_f, e_d_s, e_d_b, e_ts, e_t_d, e_t_f, e_t_s, e_p_d, e_p_l, e_p_t, e_put_d, e_put_f, e_put_b, e_bx1, e_bx, e_ap2, e_ap1, e_ap0, e_apS, e_ap, e_arg2, e_arg1, e_arg0, e_arg_b, e_arg_d, e_arg_s, e_cl3, e_cl2, e_cl1, e_cl, e_rv_d, e_rv_o, e_rv_b, e_df2, e_df_r, e_df_n, e_df, e_om, e_r_d, e_r_f, e_r_s, e_r_b, e_ff_n, e_ff_c, e_ff_b, e_ff_r, e_fg, e_fr1, e_fr, e_nm, e_im, e_it2, e_it1, e_it, e_i_l, e_i_t, e_lc3, e_lc1, e_lc, e_io1, e_io, e_iv2, e_iv_d, e_iv_o, e_iv, e_ch6, e_ch5, e_ch4t, e_ch4f, e_ch3, e_ch2, e_ch1, e_ch, e_so_d, e_so_f, e_pr3, e_pr2, e_pr1, e_pr, e_sl4, e_sl3, e_sl2, e_sl1, e_sl, e_nop, e_pt1, e_pt, o_sl_l, o_sl_t, e_yes, e_wp, e_wp0, e_wp1, e_re0, e_re1, e_kd_d, e_kd_o, e_kd_b, e_kd_n, o_add_i, o_add_s, o_add_l, o_add_t, o_sub, o_mul, o_div, o_mod, o_pow, o_lt_i, o_lt_s, o_le_i, o_le_s, o_gt_i, o_ge_i, o_ix_l, o_ix_t, o_ixK, o_len_l, o_len_t, o_len_s, o_int_i, o_int_b, o_abs, o_max, o_min, o_lst_l, o_lst_t, o_tup_l, o_tup_t, List.map_cons, List.map_nil, List.append_nil, List.nil_append, List.cons_append, List.length_cons, List.length_nil, List.getElem?_cons_zero, List.getElem?_cons_succ, List.set_cons_zero, List.set_cons_succ, if_true, if_false, List.replicate_zero, List.replicate_succ, List.length_set, Bool.not_true, Bool.not_false, decide_true, decide_false, true_and, and_true, Nat.reduceAdd, Nat.reduceLT, Nat.reduceLeDiff, reduceIte, reduceCtorEq, hk', hn]
    · have hk' : decide (k < (((ns.map PyData.int).length : Nat) : Int)) = false := by rw [ln]; exact decide_eq_false hk
      by_cases hz : (0 : Int) < (ns.length : Int)
      · have hz' : decide ((0 : Int) < (((ns.map PyData.int).length : Nat) : Int)) = true := by rw [ln]; exact decide_eq_true hz
        have hz2 : (0 : Int) < (((ns.map PyData.int).length : Nat) : Int) := by rw [ln]; exact hz
        obtain ⟨n, hn⟩ := at_ (Int.emod_nonneg k (by omega : (ns.length : Int) ≠ 0)) (Int.emod_lt_of_pos k hz)
        have hn' : atI (ns.map PyData.int) (k % (((ns.map PyData.int).length : Nat) : Int)) = some (.int n) := by rw [ln]; exact hn
        refine ⟨7717 * k + 41843 + (if n < 0 then -n else n) % 2147483629 * 60719, ?_⟩
        simp only [e_op4, e_op3, e_op2, e_op1, e_op, e_un2, e_un1, e_un, e_seq_nx, e_seq_rt, e_seq_bk, e_seq_ct, e_seq, e_nx, e_bk, e_ct, e_put, e_set1, e_set, e_drop1, e_drop, e_ret1, e_ret, e_retN, e_if_t, e_if_f, e_ifS, e_ifE, e_test1, e_test, e_not1, e_not, e_and_t, e_and_f, e_and, e_or_t, e_or_f, e_or, e_andV_t, e_andV_f, e_andV, e_orV_t, e_orV_f, e_orV, e_notV1, e_notV, e_nil, e_cons2, e_cons1, e_cons, e_tk2, e_tk1, e_tk0, e_tk, e_tup2, e_tup1, e_tup, e_lst2, e_lst1, e_lst, e_da1, e_da0, e_da, e_cb2, e_cb1, e_cb, e_v_d, e_v_o, e_v_b, e_v, e_c, e_h_d, e_h_f, e_h_s, e_h_b, e_at1, e_at, e_lm, e_d_d, e_d_f, e_d_s, e_d_b, e_ts, e_t_d, e_t_f, e_t_s, e_p_d, e_p_l, e_p_t, e_put_d, e_put_f, e_put_b, e_bx1, e_bx, e_ap2, e_ap1, e_ap0, e_apS, e_ap, e_arg2, e_arg1, e_arg0, e_arg_b, e_arg_d, e_arg_s, e_cl3, e_cl2, e_cl1, e_cl, e_rv_d, e_rv_o, e_rv_b, e_df2, e_df_r, e_df_n, e_df, e_om, e_r_d, e_r_f, e_r_s, e_r_b, e_ff_n, e_ff_c, e_ff_b, e_ff_r, e_fg, e_fr1, e_fr, e_nm, e_im, e_it2, e_it1, e_it, e_i_l, e_i_t, e_lc3, e_lc1, e_lc, e_io1, e_io, e_iv2, e_iv_d, e_iv_o, e_iv, e_ch6, e_ch5, e_ch4t, e_ch4f, e_ch3, e_ch2, e_ch1, e_ch, e_so_d, e_so_f, e_pr3, e_pr2, e_pr1, e_pr, e_sl4, e_sl3, e_sl2, e_sl1, e_sl, e_nop, e_pt1, e_pt, o_sl_l, o_sl_t, e_yes, e_wp, e_wp0, e_wp1, e_re0, e_re1, e_kd_d, e_kd_o, e_kd_b, e_kd_n, o_add_i, o_add_s, o_add_l, o_add_t, o_sub, o_mul, o_div, o_mod, o_pow, o_lt_i, o_lt_s, o_le_i, o_le_s, o_gt_i, o_ge_i, o_ix_l, o_ix_t, o_ixK, o_len_l, o_len_t, o_len_s, o_int_i, o_int_b, o_abs, o_max, o_min, o_lst_l, o_lst_t, o_tup_l, o_tup_t, List.map_cons, List.map_nil, List.append_nil, List.nil_append, List.cons_append, List.length_cons, List.length_nil, List.getElem?_cons_zero, List.getElem?_cons_succ, List.set_cons_zero, List.set_cons_succ, if_true, if_false, List.replicate_zero, List.replicate_succ, List.length_set, Bool.not_true, Bool.not_false, decide_true, decide_false, true_and, and_true, Nat.reduceAdd, Nat.reduceLT, Nat.reduceLeDiff, reduceIte, reduceCtorEq, hk', hz', hz2, hn', c2, m1]
      · have hz' : decide ((0 : Int) < (((ns.map PyData.int).length : Nat) : Int)) = false := by rw [ln]; exact decide_eq_false hz
        refine ⟨7717 * k + 41843, ?_⟩
        simp only [e_op4, e_op3, e_op2, e_op1, e_op, e_un2, e_un1, e_un, e_seq_nx, e_seq_rt, e_seq_bk, e_seq_ct, e_seq, e_nx, e_bk, e_ct, e_put, e_set1, e_set, e_drop1, e_drop, e_ret1, e_ret, e_retN, e_if_t, e_if_f, e_ifS, e_ifE, e_test1, e_test, e_not1, e_not, e_and_t, e_and_f, e_and, e_or_t, e_or_f, e_or, e_andV_t, e_andV_f, e_andV, e_orV_t, e_orV_f, e_orV, e_notV1, e_notV, e_nil, e_cons2, e_cons1, e_cons, e_tk2, e_tk1, e_tk0, e_tk, e_tup2, e_tup1, e_tup, e_lst2, e_lst1, e_lst, e_da1, e_da0, e_da, e_cb2, e_cb1, e_cb, e_v_d, e_v_o, e_v_b, e_v, e_c, e_h_d, e_h_f, e_h_s, e_h_b, e_at1, e_at, e_lm, e_d_d, e_d_f, e_d_s, e_d_b, e_ts, e_t_d, e_t_f, e_t_s, e_p_d, e_p_l, e_p_t, e_put_d, e_put_f, e_put_b, e_bx1, e_bx, e_ap2, e_ap1, e_ap0, e_apS, e_ap, e_arg2, e_arg1, e_arg0, e_arg_b, e_arg_d, e_arg_s, e_cl3, e_cl2, e_cl1, e_cl, e_rv_d, e_rv_o, e_rv_b, e_df2, e_df_r, e_df_n, e_df, e_om, e_r_d, e_r_f, e_r_s, e_r_b, e_ff_n, e_ff_c, e_ff_b, e_ff_r, e_fg, e_fr1, e_fr, e_nm, e_im, e_it2, e_it1, e_it, e_i_l, e_i_t, e_lc3, e_lc1, e_lc, e_io1, e_io, e_iv2, e_iv_d, e_iv_o, e_iv, e_ch6, e_ch5, e_ch4t, e_ch4f, e_ch3, e_ch2, e_ch1, e_ch, e_so_d, e_so_f, e_pr3, e_pr2, e_pr1, e_pr, e_sl4, e_sl3, e_sl2, e_sl1, e_sl, e_nop, e_pt1, e_pt, o_sl_l, o_sl_t, e_yes, e_wp, e_wp0, e_wp1, e_re0, e_re1, e_kd_d, e_kd_o, e_kd_b, e_kd_n, o_add_i, o_add_s, o_add_l, o_add_t, o_sub, o_mul, o_div, o_mod, o_pow, o_lt_i, o_lt_s, o_le_i, o_le_s, o_gt_i, o_ge_i, o_ix_l, o_ix_t, o_ixK, o_len_l, o_len_t, o_len_s, o_int_i, o_int_b, o_abs, o_max, o_min, o_lst_l, o_lst_t, o_tup_l, o_tup_t, List.map_cons, List.map_nil, List.append_nil, List.nil_append, List.cons_append, List.length_cons, List.length_nil, List.getElem?_cons_zero, List.getElem?_cons_succ, List.set_cons_zero, List.set_cons_succ, if_true, if_false, List.replicate_zero, List.replicate_succ, List.length_set, Bool.not_true, Bool.not_false, decide_true, decide_false, true_and, and_true, Nat.reduceAdd, Nat.reduceLT, Nat.reduceLeDiff, reduceIte, reduceCtorEq, hk', hz']
  obtain ⟨cell, hB⟩ := hB
  obtain ⟨u, v, e⟩ := box_end (a0 := some (.d (.list (ns.map .int)))) (k := k) (cell := cell) (b := [])
  refine ⟨u, v, ?_⟩
  have hA : dSet 2 (dOp opAdd (dOp opMul (dC (.int 7717)) (dV 1)) (dC (.int 41843))) ⟨[some (.d (.list (ns.map .int))), some (.d (.int k)), none], []⟩ = some (.nx, ⟨[some (.d (.list (ns.map .int))), some (.d (.int k)), some (.d (.int (7717 * k + 41843)))], []⟩) := by
    simp only [e_op4, e_op3, e_op2, e_op1, e_op, e_un2, e_un1, e_un, e_seq_nx, e_seq_rt, e_seq_bk, e_seq_ct, e_seq, e_nx, e_bk, e_ct, e_put, e_set1, e_set, e_drop1, e_drop, e_ret1, e_ret, e_retN, e_if_t, e_if_f, e_ifS, e_ifE, e_test1, e_test, e_not1, e_not, e_and_t, e_and_f, e_and, e_or_t, e_or_f, e_or, e_andV_t, e_andV_f, e_andV, e_orV_t, e_orV_f, e_orV, e_notV1, e_notV, e_nil, e_cons2, e_cons1, e_cons, e_tk2, e_tk1, e_tk0, e_tk, e_tup2, e_tup1, e_tup, e_lst2, e_lst1, e_lst, e_da1, e_da0, e_da, e_cb2, e_cb1, e_cb, e_v_d, e_v_o, e_v_b, e_v, e_c, e_h_d, e_h_f, e_h_s, e_h_b, e_at1, e_at, e_lm, e_d_d, e_d_f, e_d_s, e_d_b, e_ts, e_t_d, e_t_f, e_t_s, e_p_d, e_p_l, e_p_t, e_put_d, e_put_f, e_put_b, e_bx1, e_bx, e_ap2, e_ap1, e_ap0, e_apS, e_ap, e_arg2, e_arg1, e_arg0, e_arg_b, e_arg_d, e_arg_s, e_cl3, e_cl2, e_cl1, e_cl, e_rv_d, e_rv_o, e_rv_b, e_df2, e_df_r, e_df_n, e_df, e_om, e_r_d, e_r_f, e_r_s, e_r_b, e_ff_n, e_ff_c, e_ff_b, e_ff_r, e_fg, e_fr1, e_fr, e_nm, e_im, e_it2, e_it1, e_it, e_i_l, e_i_t, e_lc3, e_lc1, e_lc, e_io1, e_io, e_iv2, e_iv_d, e_iv_o, e_iv, e_ch6, e_ch5, e_ch4t, e_ch4f, e_ch3, e_ch2, e_ch1, e_ch, e_so_d, e_so_f, e_pr3, e_pr2, e_pr1, e_pr, e_sl4, e_sl3, e_sl2, e_sl1, e_sl, e_nop, e_pt1, e_pt, o_sl_l, o_sl_t, e_yes, e_wp, e_wp0, e_wp1, e_re0, e_re1, e_kd_d, e_kd_o, e_kd_b, e_kd_n, o_add_i, o_add_s, o_add_l, o_add_t, o_sub, o_mul, o_div, o_mod, o_pow, o_lt_i, o_lt_s, o_le_i, o_le_s, o_gt_i, o_ge_i, o_ix_l, o_ix_t, o_ixK, o_len_l, o_len_t, o_len_s, o_int_i, o_int_b, o_abs, o_max, o_min, o_lst_l, o_lst_t, o_tup_l, o_tup_t, List.map_cons, List.map_nil, List.append_nil, List.nil_append, List.cons_append, List.length_cons, List.length_nil, List.getElem?_cons_zero, List.getElem?_cons_succ, List.set_cons_zero, List.set_cons_succ, if_true, if_false, List.replicate_zero, List.replicate_succ, List.length_set, Bool.not_true, Bool.not_false, decide_true, decide_false, true_and, and_true, Nat.reduceAdd, Nat.reduceLT, Nat.reduceLeDiff, reduceIte, reduceCtorEq, m2]
  unfold boxEnd at e
  unfold f__law_box g__law_box
  show dfK (dSeq _ (dSeq _ _) ⟨[some (.d (.list (ns.map .int))), some (.d (.int k)), none], []⟩) = _
  rw [e_seq, hA, e_seq_nx, e_seq, hB, e_seq_nx, e]
  rfl
end XN

set_option maxRecDepth 100000
set_option maxHeartbeats 4000000
/-! what repr shows of lots, how long it is -/
namespace XN
open PySem PySem.Spec PyProof.Rows PySem.W L2 Evl XD

theorem shown_name {z : Str} (h : nameL z = true) : (PyData.shown (.str z)).length ≤ 52 := by
  have h1 : z.length ≤ 5 := by
    unfold nameL at h
    rw [Bool.and_eq_true] at h
    exact (of_decide_eq_true h.1).2
  have h2 := PySem.StrLaws.reprText_len z fun c hc => by
    unfold nameL at h
    rw [Bool.and_eq_true] at h
    have := of_decide_eq_true (List.all_eq_true.mp h.2 c hc)
    omega
  rw [PyData.shown]
  omega
theorem tuple_text_len (ts : List Str) : (tupleText ts).length ≤ piled ts + 3 := by
  have app : ∀ a b : Str, (a ++ b).length = a.length + b.length := fun a b => by
    show (a.cps ++ b.cps).size = _
    rw [Array.size_append]
    rfl
  unfold tupleText
  rw [app, app]
  have e1 : ((Str.ofString "(") : Str).length = 1 := rfl
  have e2 : (Str.ofString (if ts.length == 1 then ",)" else ")" : String)).length ≤ 2 := by
    split
    · exact Nat.le_refl 2
    · exact (by decide : 1 ≤ 2)
  cases ts with
  | nil =>
    have : (Str.join ", " ([] : List Str)).length = 0 := rfl
    omega
  | cons t ts =>
    have := join_length_add (t :: ts) (by simp)
    omega
theorem piled_le {ts : List Str} {k : Nat} (h : ∀ t ∈ ts, t.length ≤ k) : piled ts ≤ ts.length * (k + 2) := by
  induction ts with
  | nil => exact Nat.zero_le _
  | cons t ts ih =>
    have h1 := h t (List.mem_cons_self ..)
    have h2 := ih fun y m => h y (List.mem_cons_of_mem _ m)
    rw [piled_cons, List.length_cons, Nat.succ_mul]
    omega
theorem shownAll_map (xs : List PyData) : PyData.shownAll xs = xs.map PyData.shown := by
  induction xs with
  | nil => rw [PyData.shownAll]; rfl
  | cons x xs ih => rw [PyData.shownAll, ih]; rfl
theorem shown_tup (xs : List PyData) {k : Nat} (h : ∀ x ∈ xs, (PyData.shown x).length ≤ k) : (PyData.shown (.tuple xs)).length ≤ xs.length * (k + 2) + 3 := by
  rw [PyData.shown, shownAll_map]
  have h1 := tuple_text_len (xs.map PyData.shown)
  have h2 := piled_le (ts := xs.map PyData.shown) (k := k) fun t ht => by
    obtain ⟨x, hx, rfl⟩ := List.mem_map.mp ht
    exact h x hx
  rw [List.length_map] at h2
  omega
theorem showable_strs : ∀ l : List Str, PyData.showableAll (strsD l) = true
  | [] => by
    show PyData.showableAll [] = true
    rw [PyData.showableAll]
  | z :: l => by
    show PyData.showableAll (.str z :: strsD l) = true
    rw [PyData.showableAll, PyData.showable, showable_strs l]
    rfl
theorem showable_lots : ∀ ls : List (List Str), PyData.showableAll (lotsD ls) = true
  | [] => by
    show PyData.showableAll [] = true
    rw [PyData.showableAll]
  | l :: ls => by
    show PyData.showableAll (.tuple (strsD l) :: lotsD ls) = true
    rw [PyData.showableAll, PyData.showable, showable_strs, showable_lots ls]
    rfl
theorem shown_lot {l : List Str} (h : ∀ z ∈ l, nameL z = true) (few : l.length ≤ 20) : (lotD l).shown.length ≤ 54 * l.length + 3 := by
  have := shown_tup (strsD l) (k := 52) fun x hx => by
    obtain ⟨z, hz, rfl⟩ := mem_strsD hx
    exact shown_name (h z hz)
  have e : (strsD l).length = l.length := List.length_map _
  rw [e] at this
  show (PyData.shown (.tuple (strsD l))).length ≤ _
  omega
theorem repr_lot {l : List Str} (h : ∀ z ∈ l, nameL z = true) (few : l.length ≤ 20) : opRepr [lotD l] = some (.d (.str (lotD l).shown)) := by
  have h1 := shown_lot h few
  show (if (lotD l).showable = true ∧ (lotD l).depth ≤ 30 ∧ (lotD l).shown.length ≤ 100000 then some (PV.d (.str (lotD l).shown)) else none) = _
  refine if_pos ⟨?_, by rw [depth_lot]; omega, by omega⟩
  show PyData.showable (.tuple (strsD l)) = true
  rw [PyData.showable, showable_strs]
theorem repr_lots {ls : List (List Str)} (h : ∀ l ∈ ls, (∀ z ∈ l, nameL z = true) ∧ l.length ≤ 10) (few : ls.length ≤ 150) : opRepr [.tuple (lotsD ls)] = some (.d (.str (PyData.shown (.tuple (lotsD ls))))) := by
  have h1 := shown_tup (lotsD ls) (k := 543) fun x hx => by
    obtain ⟨l, hl, rfl⟩ := mem_lotsD hx
    have := shown_lot (h l hl).1 (by have := (h l hl).2; omega)
    have := (h l hl).2
    omega
  have e : (lotsD ls).length = ls.length := List.length_map _
  rw [e] at h1
  have d := depth_lots ls
  show (if (PyData.tuple (lotsD ls)).showable = true ∧ (PyData.tuple (lotsD ls)).depth ≤ 30 ∧ (PyData.tuple (lotsD ls)).shown.length ≤ 100000 then some (PV.d (.str (PyData.tuple (lotsD ls)).shown)) else none) = _
  refine if_pos ⟨?_, ?_, by omega⟩
  · rw [PyData.showable, showable_lots]
  · rw [PyData.depth]
    omega
theorem repr_bool (b : Bool) : opRepr [.bool b] = some (.d (.str (PyData.shown (.bool b)))) := by
  show (if (PyData.bool b).showable = true ∧ (PyData.bool b).depth ≤ 30 ∧ (PyData.bool b).shown.length ≤ 100000 then some (PV.d (.str (PyData.bool b).shown)) else none) = _
  refine if_pos ⟨by rw [PyData.showable], by rw [PyData.depth]; omega, ?_⟩
  cases b
  · rw [PyData.shown]
    exact (by decide : 5 ≤ 100000)
  · rw [PyData.shown]
    exact (by decide : 4 ≤ 100000)
/-- two equal texts -/
theorem ne_same (a : Str) : opNe (.str a) (.str a) = some (.d (.bool false)) := by
  show some (PV.d (.bool (!decide (a = a)))) = _
  rw [decide_eq_true rfl]
  rfl
theorem eq_same (a : Str) : opEq (.str a) (.str a) = some (.d (.bool true)) := by
  show some (PV.d (.bool (decide (a = a)))) = _
  rw [decide_eq_true rfl]
end XN

set_option maxRecDepth 100000
set_option maxHeartbeats 4000000
/-! mathematics: all parts of a row of names; the lots between two -/
namespace XN
open PySem PySem.Spec PyProof.Rows PySem.W L2 Evl XD

theorem mem_subsF : ∀ (l : List Str) (ps : List (List Str)) (p : List Str), p ∈ subsF l ps ↔ ∃ q ∈ ps, ∃ r, r.Sublist l ∧ p = q ++ r
  | [], ps, p => by
    rw [subsF]
    constructor
    · exact fun h => ⟨p, h, [], List.Sublist.refl _, (List.append_nil p).symm⟩
    · rintro ⟨q, hq, r, hr, rfl⟩
      have : r = [] := List.sublist_nil.mp hr
      rw [this, List.append_nil]
      exact hq
  | n :: l, ps, p => by
    rw [subsF, mem_subsF l]
    unfold stepL
    constructor
    · rintro ⟨q, hq, r, hr, rfl⟩
      rcases List.mem_append.mp hq with hq | hq
      · exact ⟨q, hq, r, hr.cons n, rfl⟩
      · obtain ⟨q', hq', rfl⟩ := List.mem_map.mp hq
        exact ⟨q', hq', n :: r, hr.cons₂ n, by rw [List.append_assoc]; rfl⟩
    · rintro ⟨q, hq, r, hr, rfl⟩
      cases hr with
      | cons _ hr => exact ⟨q, List.mem_append_left _ hq, r, hr, rfl⟩
      | cons_cons _ hr =>
        rename_i r
        exact ⟨q ++ [n], List.mem_append_right _ (List.mem_map.mpr ⟨q, hq, rfl⟩), r, hr, by rw [List.append_assoc]; rfl⟩
theorem mem_parts {l p : List Str} : p ∈ partsL l ↔ p.Sublist l := by
  unfold partsL subs
  rw [(sortL_perm _).mem_iff, mem_subsF]
  constructor
  · rintro ⟨q, hq, r, hr, rfl⟩
    rw [List.mem_singleton.mp hq]
    exact hr
  · exact fun h => ⟨[], List.mem_singleton.mpr rfl, p, h, rfl⟩
theorem nodup_subsF : ∀ (l : List Str) (ps : List (List Str)), l.Nodup → ps.Nodup → (∀ p ∈ ps, ∀ n ∈ l, n ∉ p) → (subsF l ps).Nodup
  | [], _, _, h, _ => h
  | n :: l, ps, hl, hp, hd => by
    rw [subsF]
    have hl' := List.nodup_cons.mp hl
    refine nodup_subsF l (stepL ps n) hl'.2 ?_ fun p hm m hml => ?_
    · unfold stepL
      refine List.nodup_append.mpr ⟨hp, ?_, fun a ha c hc e => ?_⟩
      · refine List.Pairwise.map _ (fun a c hne e => hne ?_) hp
        exact (List.append_inj' e rfl).1
      · obtain ⟨q, hq, rfl⟩ := List.mem_map.mp hc
        rw [e] at ha
        exact hd _ ha n (List.mem_cons_self ..) (List.mem_append_right _ (List.mem_singleton.mpr rfl))
    · unfold stepL at hm
      rcases List.mem_append.mp hm with hm | hm
      · exact hd p hm m (List.mem_cons_of_mem _ hml)
      · obtain ⟨q, hq, rfl⟩ := List.mem_map.mp hm
        intro h
        rcases List.mem_append.mp h with h | h
        · exact hd q hq m (List.mem_cons_of_mem _ hml) h
        · rw [List.mem_singleton.mp h] at hml
          exact hl'.1 hml
theorem nodup_parts {l : List Str} (h : l.Nodup) : (partsL l).Nodup := by
  unfold partsL
  rw [(sortL_perm _).nodup_iff]
  exact nodup_subsF l [[]] h (by simp) fun p hp n _ => by
    rw [List.mem_singleton.mp hp]
    simp
theorem part_iff {a c : List Str} : partL a c = true ↔ ∀ z ∈ a, z ∈ c := by
  unfold partL
  rw [List.all_eq_true]
  exact ⟨fun h z m => of_decide_eq_true (h z m), fun h z m => decide_eq_true (h z m)⟩
/-- names in order -/
structure Ord (ns : List Str) : Prop where
  nd : ns.Nodup
  so : ns.Pairwise fun a c => sLe a c = true
theorem Ord.sub {ns l : List Str} (h : Ord ns) (s : l.Sublist ns) : Ord l := ⟨h.nd.sublist s, h.so.sublist s⟩
theorem Ord.eq {l m : List Str} (hl : Ord l) (hm : Ord m) (h : ∀ z, z ∈ l ↔ z ∈ m) : l = m :=
  sorted_unique (fun _ _ _ _ => sLe_anti) ((List.perm_ext_iff_of_nodup hl.nd hm.nd).mpr h) hl.so hm.so
theorem ord_sort {l : List Str} (h : l.Nodup) : Ord (sortS l) := ⟨(sortS_perm l).nodup_iff.mpr h, sortS_sorted l⟩
/-- a row in order whose names are ns's is a part of it -/
theorem Ord.subl {ns l : List Str} (hn : Ord ns) (hl : Ord l) (h : ∀ z ∈ l, z ∈ ns) : l.Sublist ns := by
  have e : l = ns.filter fun z => decide (z ∈ l) := hl.eq (hn.sub List.filter_sublist) fun z => by
    rw [List.mem_filter]
    exact ⟨fun m => ⟨h z m, decide_eq_true m⟩, fun m => of_decide_eq_true m.2⟩
  rw [e]
  exact List.filter_sublist
theorem ord_united (a c : List Str) : Ord (unitedL a c) := ord_sort (nodup_undup _)
theorem mem_united {a c : List Str} {z : Str} : z ∈ unitedL a c ↔ z ∈ a ∨ z ∈ c := by
  unfold unitedL
  rw [(sortS_perm _).mem_iff, mem_undup, List.mem_append]
theorem mem_less {a c : List Str} {z : Str} : z ∈ lessL a c ↔ z ∈ a ∧ z ∉ c := by
  unfold lessL
  rw [List.mem_filter]
  constructor
  · rintro ⟨h1, h2⟩
    refine ⟨h1, fun h => ?_⟩
    rw [decide_eq_true h] at h2
    cases h2
  · rintro ⟨h1, h2⟩
    exact ⟨h1, by rw [decide_eq_false h2]; rfl⟩
theorem between_eq {ns a c : List Str} (hn : Ord ns) (ha : a.Sublist ns) (hc : c.Sublist ns) : (partsL ns).filter (fun l => partL a l && partL l c) = betweenL a c := by
  have oa := hn.sub ha
  have oc := hn.sub hc
  unfold betweenL
  by_cases hp : partL a c = true
  · rw [if_pos hp]
    have hp' := part_iff.mp hp
    refine sortL_of ?_ ((sortL_sorted _).sublist List.filter_sublist)
    have n1 : ((partsL ns).filter fun l => partL a l && partL l c).Nodup := (nodup_parts hn.nd).sublist List.filter_sublist
    have ol : Ord (lessL c a) := oc.sub List.filter_sublist
    have inj : ∀ p ∈ partsL (lessL c a), p = lessL (unitedL a p) a := fun p hm => by
      have sp := mem_parts.mp hm
      refine (ol.sub sp).eq ((ord_united a p).sub List.filter_sublist) fun z => ?_
      rw [mem_less, mem_united]
      constructor
      · exact fun m => ⟨.inr m, (mem_less.mp (sp.subset m)).2⟩
      · rintro ⟨h | h, h2⟩
        · exact absurd h h2
        · exact h
    have n2 : ((partsL (lessL c a)).map (unitedL a)).Nodup := by
      refine List.Pairwise.map (R := fun p q => p ∈ partsL (lessL c a) ∧ q ∈ partsL (lessL c a) ∧ p ≠ q) _ (fun p q h e => h.2.2 ?_) ?_
      · rw [inj p h.1, inj q h.2.1, e]
      · have := nodup_parts ol.nd
        refine List.Pairwise.imp_of_mem (fun {p q} hp hq h => ⟨hp, hq, h⟩) this
    refine (List.perm_ext_iff_of_nodup n1 n2).mpr fun l => ?_
    rw [List.mem_filter, List.mem_map, Bool.and_eq_true, part_iff, part_iff, mem_parts]
    constructor
    · rintro ⟨sl, h1, h2⟩
      have oll := hn.sub sl
      refine ⟨lessL l a, mem_parts.mpr (ol.subl (oll.sub List.filter_sublist) fun z m => mem_less.mpr ⟨h2 z (mem_less.mp m).1, (mem_less.mp m).2⟩), ?_⟩
      refine (ord_united a _).eq oll fun z => ?_
      rw [mem_united, mem_less]
      constructor
      · rintro (h | h)
        · exact h1 z h
        · exact h.1
      · intro h
        by_cases q : z ∈ a
        · exact .inl q
        · exact .inr ⟨h, q⟩
    · rintro ⟨p, hm, rfl⟩
      have sp := mem_parts.mp hm
      have into : ∀ z ∈ unitedL a p, z ∈ c := fun z m => by
        rcases mem_united.mp m with h | h
        · exact hp' z h
        · exact (mem_less.mp (sp.subset h)).1
      exact ⟨hn.subl (ord_united a p) fun z m => hc.subset (into z m), fun z m => mem_united.mpr (.inl m), into⟩
  · rw [if_neg hp]
    refine List.filter_eq_nil_iff.mpr fun l _ h => hp ?_
    rw [Bool.and_eq_true, part_iff, part_iff] at h
    exact part_iff.mpr fun z m => h.2 z (h.1 z m)
end XN

set_option maxRecDepth 100000
set_option maxHeartbeats 4000000
/-! the law's word on a pair of lots -/
namespace XN
open PySem PySem.Spec PyProof.Rows PySem.W L2 Evl XD

theorem set_back {e : List (Option SV)} {k : Nat} (h : e[k]? = some none) (x : Option SV) : (e.set k x).set k none = e := by
  rw [List.set_set]
  refine List.ext_getElem? fun i => ?_
  by_cases z : k = i
  · subst z
    have hk := (List.getElem?_eq_some_iff.mp h).1
    rw [List.getElem?_set_self hk, h]
  · rw [List.getElem?_set_ne z]
theorem fold_ni {all : List PyData} {e : List (Option SV)} {b : List Int} {j k : Nat} {l m : List Str} (hj : e[j]? = some (some (.d (lotD m)))) (hk : e[k]? = some none) (hl : Oks l) (hm : Oks m) :
    lcFold [k] none all (dName k) (dTest (dOp opNi (dV k) (dV j))) (dV k) (strsD l) ⟨e, b⟩ = some (strsD (lessL l m), ⟨e, b⟩) := by
  have lk := (List.getElem?_eq_some_iff.mp hk).1
  have njk : k ≠ j := fun z => by
    rw [z, hj] at hk
    cases hk
  have key := lc_map (vs := [k]) (on := none) (all := all) (i := k) (c := dTest (dOp opNi (dV k) (dV j))) (f := dV k) (e := e) (b := b) (niB m) id chk_none lk (fun x => set_back hk _) (strsD l) (fun x hx => by
      obtain ⟨z, hz, rfl⟩ := mem_strsD hx
      have gk : (e.set k (some (.d (.str z))))[k]? = some (some (.d (.str z))) := List.getElem?_set_self lk
      have gj : (e.set k (some (.d (.str z))))[j]? = some (some (.d (lotD m))) := (List.getElem?_set_ne njk).trans hj
      simp only [e_op4, e_op3, e_op2, e_op1, e_op, e_un2, e_un1, e_un, e_seq_nx, e_seq_rt, e_seq_bk, e_seq_ct, e_seq, e_nx, e_bk, e_ct, e_put, e_set1, e_set, e_drop1, e_drop, e_ret1, e_ret, e_retN, e_if_t, e_if_f, e_ifS, e_ifE, e_test1, e_test, e_not1, e_not, e_and_t, e_and_f, e_and, e_or_t, e_or_f, e_or, e_andV_t, e_andV_f, e_andV, e_orV_t, e_orV_f, e_orV, e_notV1, e_notV, e_nil, e_cons2, e_cons1, e_cons, e_tk2, e_tk1, e_tk0, e_tk, e_tup2, e_tup1, e_tup, e_lst2, e_lst1, e_lst, e_da1, e_da0, e_da, e_cb2, e_cb1, e_cb, e_v_d, e_v_o, e_v_b, e_v, e_c, e_h_d, e_h_f, e_h_s, e_h_b, e_at1, e_at, e_lm, e_d_d, e_d_f, e_d_s, e_d_b, e_ts, e_t_d, e_t_f, e_t_s, e_p_d, e_p_l, e_p_t, e_put_d, e_put_f, e_put_b, e_bx1, e_bx, e_ap2, e_ap1, e_ap0, e_apS, e_ap, e_arg2, e_arg1, e_arg0, e_arg_b, e_arg_d, e_arg_s, e_cl3, e_cl2, e_cl1, e_cl, e_rv_d, e_rv_o, e_rv_b, e_df2, e_df_r, e_df_n, e_df, e_om, e_r_d, e_r_f, e_r_s, e_r_b, e_ff_n, e_ff_c, e_ff_b, e_ff_r, e_fg, e_fr1, e_fr, e_nm, e_im, e_it2, e_it1, e_it, e_i_l, e_i_t, e_lc3, e_lc1, e_lc, e_io1, e_io, e_iv2, e_iv_d, e_iv_o, e_iv, e_ch6, e_ch5, e_ch4t, e_ch4f, e_ch3, e_ch2, e_ch1, e_ch, e_so_d, e_so_f, e_pr3, e_pr2, e_pr1, e_pr, e_sl4, e_sl3, e_sl2, e_sl1, e_sl, e_nop, e_pt1, e_pt, o_sl_l, o_sl_t, e_yes, e_wp, e_wp0, e_wp1, e_re0, e_re1, e_kd_d, e_kd_o, e_kd_b, e_kd_n, o_add_i, o_add_s, o_add_l, o_add_t, o_sub, o_mul, o_div, o_mod, o_pow, o_lt_i, o_lt_s, o_le_i, o_le_s, o_gt_i, o_ge_i, o_ix_l, o_ix_t, o_ixK, o_len_l, o_len_t, o_len_s, o_int_i, o_int_b, o_abs, o_max, o_min, o_lst_l, o_lst_t, o_tup_l, o_tup_t, List.map_cons, List.map_nil, List.append_nil, List.nil_append, List.cons_append, List.length_cons, List.length_nil, List.getElem?_cons_zero, List.getElem?_cons_succ, List.set_cons_zero, List.set_cons_succ, if_true, if_false, List.replicate_zero, List.replicate_succ, List.length_set, Bool.not_true, Bool.not_false, decide_true, decide_false, true_and, and_true, Nat.reduceAdd, Nat.reduceLT, Nat.reduceLeDiff, reduceIte, reduceCtorEq, gk, gj, ni_lot (hl z hz) hm]
      rfl) fun x hx _ => by
      obtain ⟨z, hz, rfl⟩ := mem_strsD hx
      have gk : (e.set k (some (.d (.str z))))[k]? = some (some (.d (.str z))) := List.getElem?_set_self lk
      refine ⟨.d (.str z), ?_, rfl⟩
      simp only [e_op4, e_op3, e_op2, e_op1, e_op, e_un2, e_un1, e_un, e_seq_nx, e_seq_rt, e_seq_bk, e_seq_ct, e_seq, e_nx, e_bk, e_ct, e_put, e_set1, e_set, e_drop1, e_drop, e_ret1, e_ret, e_retN, e_if_t, e_if_f, e_ifS, e_ifE, e_test1, e_test, e_not1, e_not, e_and_t, e_and_f, e_and, e_or_t, e_or_f, e_or, e_andV_t, e_andV_f, e_andV, e_orV_t, e_orV_f, e_orV, e_notV1, e_notV, e_nil, e_cons2, e_cons1, e_cons, e_tk2, e_tk1, e_tk0, e_tk, e_tup2, e_tup1, e_tup, e_lst2, e_lst1, e_lst, e_da1, e_da0, e_da, e_cb2, e_cb1, e_cb, e_v_d, e_v_o, e_v_b, e_v, e_c, e_h_d, e_h_f, e_h_s, e_h_b, e_at1, e_at, e_lm, e_d_d, e_d_f, e_d_s, e_d_b, e_ts, e_t_d, e_t_f, e_t_s, e_p_d, e_p_l, e_p_t, e_put_d, e_put_f, e_put_b, e_bx1, e_bx, e_ap2, e_ap1, e_ap0, e_apS, e_ap, e_arg2, e_arg1, e_arg0, e_arg_b, e_arg_d, e_arg_s, e_cl3, e_cl2, e_cl1, e_cl, e_rv_d, e_rv_o, e_rv_b, e_df2, e_df_r, e_df_n, e_df, e_om, e_r_d, e_r_f, e_r_s, e_r_b, e_ff_n, e_ff_c, e_ff_b, e_ff_r, e_fg, e_fr1, e_fr, e_nm, e_im, e_it2, e_it1, e_it, e_i_l, e_i_t, e_lc3, e_lc1, e_lc, e_io1, e_io, e_iv2, e_iv_d, e_iv_o, e_iv, e_ch6, e_ch5, e_ch4t, e_ch4f, e_ch3, e_ch2, e_ch1, e_ch, e_so_d, e_so_f, e_pr3, e_pr2, e_pr1, e_pr, e_sl4, e_sl3, e_sl2, e_sl1, e_sl, e_nop, e_pt1, e_pt, o_sl_l, o_sl_t, e_yes, e_wp, e_wp0, e_wp1, e_re0, e_re1, e_kd_d, e_kd_o, e_kd_b, e_kd_n, o_add_i, o_add_s, o_add_l, o_add_t, o_sub, o_mul, o_div, o_mod, o_pow, o_lt_i, o_lt_s, o_le_i, o_le_s, o_gt_i, o_ge_i, o_ix_l, o_ix_t, o_ixK, o_len_l, o_len_t, o_len_s, o_int_i, o_int_b, o_abs, o_max, o_min, o_lst_l, o_lst_t, o_tup_l, o_tup_t, List.map_cons, List.map_nil, List.append_nil, List.nil_append, List.cons_append, List.length_cons, List.length_nil, List.getElem?_cons_zero, List.getElem?_cons_succ, List.set_cons_zero, List.set_cons_succ, if_true, if_false, List.replicate_zero, List.replicate_succ, List.length_set, Bool.not_true, Bool.not_false, decide_true, decide_false, true_and, and_true, Nat.reduceAdd, Nat.reduceLT, Nat.reduceLeDiff, reduceIte, reduceCtorEq, gk]
  rw [List.map_id, filter_strs] at key
  exact key
theorem fold_in {all : List PyData} {e : List (Option SV)} {b : List Int} {j k : Nat} {l m : List Str} (hj : e[j]? = some (some (.d (lotD m)))) (hk : e[k]? = some none) (hl : Oks l) (hm : Oks m) :
    lcFold [k] none all (dName k) (dTest (dOp opIn (dV k) (dV j))) (dV k) (strsD l) ⟨e, b⟩ = some (strsD (commonL l m), ⟨e, b⟩) := by
  have lk := (List.getElem?_eq_some_iff.mp hk).1
  have njk : k ≠ j := fun z => by
    rw [z, hj] at hk
    cases hk
  have key := lc_map (vs := [k]) (on := none) (all := all) (i := k) (c := dTest (dOp opIn (dV k) (dV j))) (f := dV k) (e := e) (b := b) (inB m) id chk_none lk (fun x => set_back hk _) (strsD l) (fun x hx => by
      obtain ⟨z, hz, rfl⟩ := mem_strsD hx
      have gk : (e.set k (some (.d (.str z))))[k]? = some (some (.d (.str z))) := List.getElem?_set_self lk
      have gj : (e.set k (some (.d (.str z))))[j]? = some (some (.d (lotD m))) := (List.getElem?_set_ne njk).trans hj
      simp only [e_op4, e_op3, e_op2, e_op1, e_op, e_un2, e_un1, e_un, e_seq_nx, e_seq_rt, e_seq_bk, e_seq_ct, e_seq, e_nx, e_bk, e_ct, e_put, e_set1, e_set, e_drop1, e_drop, e_ret1, e_ret, e_retN, e_if_t, e_if_f, e_ifS, e_ifE, e_test1, e_test, e_not1, e_not, e_and_t, e_and_f, e_and, e_or_t, e_or_f, e_or, e_andV_t, e_andV_f, e_andV, e_orV_t, e_orV_f, e_orV, e_notV1, e_notV, e_nil, e_cons2, e_cons1, e_cons, e_tk2, e_tk1, e_tk0, e_tk, e_tup2, e_tup1, e_tup, e_lst2, e_lst1, e_lst, e_da1, e_da0, e_da, e_cb2, e_cb1, e_cb, e_v_d, e_v_o, e_v_b, e_v, e_c, e_h_d, e_h_f, e_h_s, e_h_b, e_at1, e_at, e_lm, e_d_d, e_d_f, e_d_s, e_d_b, e_ts, e_t_d, e_t_f, e_t_s, e_p_d, e_p_l, e_p_t, e_put_d, e_put_f, e_put_b, e_bx1, e_bx, e_ap2, e_ap1, e_ap0, e_apS, e_ap, e_arg2, e_arg1, e_arg0, e_arg_b, e_arg_d, e_arg_s, e_cl3, e_cl2, e_cl1, e_cl, e_rv_d, e_rv_o, e_rv_b, e_df2, e_df_r, e_df_n, e_df, e_om, e_r_d, e_r_f, e_r_s, e_r_b, e_ff_n, e_ff_c, e_ff_b, e_ff_r, e_fg, e_fr1, e_fr, e_nm, e_im, e_it2, e_it1, e_it, e_i_l, e_i_t, e_lc3, e_lc1, e_lc, e_io1, e_io, e_iv2, e_iv_d, e_iv_o, e_iv, e_ch6, e_ch5, e_ch4t, e_ch4f, e_ch3, e_ch2, e_ch1, e_ch, e_so_d, e_so_f, e_pr3, e_pr2, e_pr1, e_pr, e_sl4, e_sl3, e_sl2, e_sl1, e_sl, e_nop, e_pt1, e_pt, o_sl_l, o_sl_t, e_yes, e_wp, e_wp0, e_wp1, e_re0, e_re1, e_kd_d, e_kd_o, e_kd_b, e_kd_n, o_add_i, o_add_s, o_add_l, o_add_t, o_sub, o_mul, o_div, o_mod, o_pow, o_lt_i, o_lt_s, o_le_i, o_le_s, o_gt_i, o_ge_i, o_ix_l, o_ix_t, o_ixK, o_len_l, o_len_t, o_len_s, o_int_i, o_int_b, o_abs, o_max, o_min, o_lst_l, o_lst_t, o_tup_l, o_tup_t, List.map_cons, List.map_nil, List.append_nil, List.nil_append, List.cons_append, List.length_cons, List.length_nil, List.getElem?_cons_zero, List.getElem?_cons_succ, List.set_cons_zero, List.set_cons_succ, if_true, if_false, List.replicate_zero, List.replicate_succ, List.length_set, Bool.not_true, Bool.not_false, decide_true, decide_false, true_and, and_true, Nat.reduceAdd, Nat.reduceLT, Nat.reduceLeDiff, reduceIte, reduceCtorEq, gk, gj, in_lot (hl z hz) hm]
      rfl) fun x hx _ => by
      obtain ⟨z, hz, rfl⟩ := mem_strsD hx
      have gk : (e.set k (some (.d (.str z))))[k]? = some (some (.d (.str z))) := List.getElem?_set_self lk
      refine ⟨.d (.str z), ?_, rfl⟩
      simp only [e_op4, e_op3, e_op2, e_op1, e_op, e_un2, e_un1, e_un, e_seq_nx, e_seq_rt, e_seq_bk, e_seq_ct, e_seq, e_nx, e_bk, e_ct, e_put, e_set1, e_set, e_drop1, e_drop, e_ret1, e_ret, e_retN, e_if_t, e_if_f, e_ifS, e_ifE, e_test1, e_test, e_not1, e_not, e_and_t, e_and_f, e_and, e_or_t, e_or_f, e_or, e_andV_t, e_andV_f, e_andV, e_orV_t, e_orV_f, e_orV, e_notV1, e_notV, e_nil, e_cons2, e_cons1, e_cons, e_tk2, e_tk1, e_tk0, e_tk, e_tup2, e_tup1, e_tup, e_lst2, e_lst1, e_lst, e_da1, e_da0, e_da, e_cb2, e_cb1, e_cb, e_v_d, e_v_o, e_v_b, e_v, e_c, e_h_d, e_h_f, e_h_s, e_h_b, e_at1, e_at, e_lm, e_d_d, e_d_f, e_d_s, e_d_b, e_ts, e_t_d, e_t_f, e_t_s, e_p_d, e_p_l, e_p_t, e_put_d, e_put_f, e_put_b, e_bx1, e_bx, e_ap2, e_ap1, e_ap0, e_apS, e_ap, e_arg2, e_arg1, e_arg0, e_arg_b, e_arg_d, e_arg_s, e_cl3, e_cl2, e_cl1, e_cl, e_rv_d, e_rv_o, e_rv_b, e_df2, e_df_r, e_df_n, e_df, e_om, e_r_d, e_r_f, e_r_s, e_r_b, e_ff_n, e_ff_c, e_ff_b, e_ff_r, e_fg, e_fr1, e_fr, e_nm, e_im, e_it2, e_it1, e_it, e_i_l, e_i_t, e_lc3, e_lc1, e_lc, e_io1, e_io, e_iv2, e_iv_d, e_iv_o, e_iv, e_ch6, e_ch5, e_ch4t, e_ch4f, e_ch3, e_ch2, e_ch1, e_ch, e_so_d, e_so_f, e_pr3, e_pr2, e_pr1, e_pr, e_sl4, e_sl3, e_sl2, e_sl1, e_sl, e_nop, e_pt1, e_pt, o_sl_l, o_sl_t, e_yes, e_wp, e_wp0, e_wp1, e_re0, e_re1, e_kd_d, e_kd_o, e_kd_b, e_kd_n, o_add_i, o_add_s, o_add_l, o_add_t, o_sub, o_mul, o_div, o_mod, o_pow, o_lt_i, o_lt_s, o_le_i, o_le_s, o_gt_i, o_ge_i, o_ix_l, o_ix_t, o_ixK, o_len_l, o_len_t, o_len_s, o_int_i, o_int_b, o_abs, o_max, o_min, o_lst_l, o_lst_t, o_tup_l, o_tup_t, List.map_cons, List.map_nil, List.append_nil, List.nil_append, List.cons_append, List.length_cons, List.length_nil, List.getElem?_cons_zero, List.getElem?_cons_succ, List.set_cons_zero, List.set_cons_succ, if_true, if_false, List.replicate_zero, List.replicate_succ, List.length_set, Bool.not_true, Bool.not_false, decide_true, decide_false, true_and, and_true, Nat.reduceAdd, Nat.reduceLT, Nat.reduceLeDiff, reduceIte, reduceCtorEq, gk]
  rw [List.map_id, filter_strs] at key
  exact key
theorem less_zero {a c : List Str} : ((((strsD (lessL a c)).length : Nat) : Int) == 0) = partL a c := by
  have e : (strsD (lessL a c)).length = (lessL a c).length := List.length_map _
  rw [e]
  cases hp : partL a c with
  | true =>
    have : lessL a c = [] := List.filter_eq_nil_iff.mpr fun z m h => by
      rw [decide_eq_true (part_iff.mp hp z m)] at h
      cases h
    rw [this]
    rfl
  | false =>
    refine beq_eq_false_iff_ne.mpr fun h => ?_
    have l0 : lessL a c = [] := List.eq_nil_of_length_eq_zero (by omega)
    have : partL a c = true := part_iff.mpr fun z m => by
      by_cases q : z ∈ c
      · exact q
      · have : z ∈ lessL a c := mem_less.mpr ⟨m, q⟩
        rw [l0] at this
        cases this
    rw [this] at hp
    cases hp
theorem united_alt {a c : List Str} (ha : a.Nodup) (hc : c.Nodup) : sortS (a ++ lessL c a) = unitedL a c := by
  refine (ord_sort ?_).eq (ord_united a c) fun z => ?_
  · refine List.nodup_append.mpr ⟨ha, hc.sublist List.filter_sublist, fun x hx y hy e => ?_⟩
    rw [e] at hx
    exact (mem_less.mp hy).2 hx
  · rw [(sortS_perm _).mem_iff, List.mem_append, mem_united, mem_less]
    constructor
    · rintro (h | h)
      · exact .inl h
      · exact .inr h.1
    · rintro (h | h)
      · exact .inl h
      · by_cases q : z ∈ a
        · exact .inl q
        · exact .inr ⟨h, q⟩
end XN

set_option maxRecDepth 100000
set_option maxHeartbeats 4000000
/-! the law's word on a pair of lots -/
namespace XN
open PySem PySem.Spec PyProof.Rows PySem.W L2 Evl XD

theorem list_add {x y : List Str} (h : x.length + y.length < 1000) : opAdd (.list (strsD x)) (.list (strsD y)) = some (.l (strsD (x ++ y))) := by
  show (if (x.map PyData.str).length + (y.map PyData.str).length ≤ 100000 then some (PV.l (x.map PyData.str ++ y.map PyData.str)) else none) = _
  rw [if_pos (by rw [List.length_map, List.length_map]; omega), ← List.map_append]
  rfl
theorem op_list_lot (l : List Str) : opList [lotD l] = some (.l (strsD l)) := rfl
theorem lot_tuple (l : List Str) : PyData.tuple (strsD l) = lotD l := rfl
theorem len_lot (l : List Str) : opLen [lotD l] = some (.d (.int ((strsD l).length : Nat))) := rfl
/-- the due lots -/
theorem due_fold {ns a c : List Str} {w : Option SV} {b : List Int} (on : ∀ z ∈ ns, nameL z = true) (ha : a.Sublist ns) (hc : c.Sublist ns) (short : ns.length ≤ 9) :
    lcFold [6] none (lotsD (partsL ns)) (dName 6) (dAnd (dTest (dOp opEq (dCB opLen (dCons (dLc [5] (dItV [5] 0) (dName 5) (dTest (dOp opNi (dV 5) (dV 6))) (dV 5)) dNil)) (dC (.int 0)))) (dTest (dOp opEq (dCB opLen (dCons (dLc [5] (dItV [5] 6) (dName 5) (dTest (dOp opNi (dV 5) (dV 1))) (dV 5)) dNil)) (dC (.int 0))))) (dV 6)
      (lotsD (partsL ns)) ⟨[some (.d (lotD a)), some (.d (lotD c)), some (.d (.list (lotsD (partsL ns)))), w, none, none, none], b⟩ = some (lotsD ((partsL ns).filter fun l => partL a l && partL l c), ⟨[some (.d (lotD a)), some (.d (lotD c)), some (.d (.list (lotsD (partsL ns)))), w, none, none, none], b⟩) := by
  have ok : ∀ {l : List Str}, l.Sublist ns → Oks l := fun s z m => name_ok (on z (s.subset m))
  have few : ∀ {l m : List Str}, l.Sublist ns → (strsD (lessL l m)).length < 100000 := fun {l m} s => few_strs (few_filter (Nat.lt_of_le_of_lt (Nat.le_trans s.length_le short) (by decide)))
  have key := lc_map (vs := [6]) (on := none) (all := lotsD (partsL ns)) (i := 6) (c := dAnd (dTest (dOp opEq (dCB opLen (dCons (dLc [5] (dItV [5] 0) (dName 5) (dTest (dOp opNi (dV 5) (dV 6))) (dV 5)) dNil)) (dC (.int 0)))) (dTest (dOp opEq (dCB opLen (dCons (dLc [5] (dItV [5] 6) (dName 5) (dTest (dOp opNi (dV 5) (dV 1))) (dV 5)) dNil)) (dC (.int 0))))) (f := dV 6)
    (e := [some (.d (lotD a)), some (.d (lotD c)), some (.d (.list (lotsD (partsL ns)))), w, none, none, none]) (b := b) (fun x => partL a (strsOf x) && partL (strsOf x) c) id chk_none (by show 6 < 7; decide) (fun x => rfl) (lotsD (partsL ns)) (fun x hx => by
      obtain ⟨l, hl, rfl⟩ := mem_lotsD hx
      have sl := mem_parts.mp hl
      have k1 := fold_ni (all := strsD a) (e := [some (.d (lotD a)), some (.d (lotD c)), some (.d (.list (lotsD (partsL ns)))), w, none, none, some (.d (lotD l))]) (b := b) (j := 6) (k := 5) (l := a) (m := l) rfl rfl (ok ha) (ok sl)
      have k2 := fold_ni (all := strsD l) (e := [some (.d (lotD a)), some (.d (lotD c)), some (.d (.list (lotsD (partsL ns)))), w, none, none, some (.d (lotD l))]) (b := b) (j := 1) (k := 5) (l := l) (m := c) rfl rfl (ok sl) (ok hc)
      have f1 := few (m := l) ha
      have f2 := few (m := c) sl
      show _ = some (partL a (strsOf (lotD l)) && partL (strsOf (lotD l)) c, _)
      rw [strsOf_lot]
      cases h1 : partL a l with
      | true =>
        have z1 := less_zero (a := a) (c := l)
        rw [h1] at z1
        have z2 := less_zero (a := l) (c := c)
        simp only [e_op4, e_op3, e_op2, e_op1, e_op, e_un2, e_un1, e_un, e_seq_nx, e_seq_rt, e_seq_bk, e_seq_ct, e_seq, e_nx, e_bk, e_ct, e_put, e_set1, e_set, e_drop1, e_drop, e_ret1, e_ret, e_retN, e_if_t, e_if_f, e_ifS, e_ifE, e_test1, e_test, e_not1, e_not, e_and_t, e_and_f, e_and, e_or_t, e_or_f, e_or, e_andV_t, e_andV_f, e_andV, e_orV_t, e_orV_f, e_orV, e_notV1, e_notV, e_nil, e_cons2, e_cons1, e_cons, e_tk2, e_tk1, e_tk0, e_tk, e_tup2, e_tup1, e_tup, e_lst2, e_lst1, e_lst, e_da1, e_da0, e_da, e_cb2, e_cb1, e_cb, e_v_d, e_v_o, e_v_b, e_v, e_c, e_h_d, e_h_f, e_h_s, e_h_b, e_at1, e_at, e_lm, e_d_d, e_d_f, e_d_s, e_d_b, e_ts, e_t_d, e_t_f, e_t_s, e_p_d, e_p_l, e_p_t, e_put_d, e_put_f, e_put_b, e_bx1, e_bx, e_ap2, e_ap1, e_ap0, e_apS, e_ap, e_arg2, e_arg1, e_arg0, e_arg_b, e_arg_d, e_arg_s, e_cl3, e_cl2, e_cl1, e_cl, e_rv_d, e_rv_o, e_rv_b, e_df2, e_df_r, e_df_n, e_df, e_om, e_r_d, e_r_f, e_r_s, e_r_b, e_ff_n, e_ff_c, e_ff_b, e_ff_r, e_fg, e_fr1, e_fr, e_nm, e_im, e_it2, e_it1, e_it, e_i_l, e_i_t, e_lc3, e_lc1, e_lc, e_io1, e_io, e_iv2, e_iv_d, e_iv_o, e_iv, e_ch6, e_ch5, e_ch4t, e_ch4f, e_ch3, e_ch2, e_ch1, e_ch, e_so_d, e_so_f, e_pr3, e_pr2, e_pr1, e_pr, e_sl4, e_sl3, e_sl2, e_sl1, e_sl, e_nop, e_pt1, e_pt, o_sl_l, o_sl_t, e_yes, e_wp, e_wp0, e_wp1, e_re0, e_re1, e_kd_d, e_kd_o, e_kd_b, e_kd_n, o_add_i, o_add_s, o_add_l, o_add_t, o_sub, o_mul, o_div, o_mod, o_pow, o_lt_i, o_lt_s, o_le_i, o_le_s, o_gt_i, o_ge_i, o_ix_l, o_ix_t, o_ixK, o_len_l, o_len_t, o_len_s, o_int_i, o_int_b, o_abs, o_max, o_min, o_lst_l, o_lst_t, o_tup_l, o_tup_t, List.map_cons, List.map_nil, List.append_nil, List.nil_append, List.cons_append, List.length_cons, List.length_nil, List.getElem?_cons_zero, List.getElem?_cons_succ, List.set_cons_zero, List.set_cons_succ, if_true, if_false, List.replicate_zero, List.replicate_succ, List.length_set, Bool.not_true, Bool.not_false, decide_true, decide_false, true_and, and_true, Nat.reduceAdd, Nat.reduceLT, Nat.reduceLeDiff, reduceIte, reduceCtorEq, items_lot, k1, k2, f1, f2, eq_int, z1, z2]
        rfl
      | false =>
        have z1 := less_zero (a := a) (c := l)
        rw [h1] at z1
        simp only [e_op4, e_op3, e_op2, e_op1, e_op, e_un2, e_un1, e_un, e_seq_nx, e_seq_rt, e_seq_bk, e_seq_ct, e_seq, e_nx, e_bk, e_ct, e_put, e_set1, e_set, e_drop1, e_drop, e_ret1, e_ret, e_retN, e_if_t, e_if_f, e_ifS, e_ifE, e_test1, e_test, e_not1, e_not, e_and_t, e_and_f, e_and, e_or_t, e_or_f, e_or, e_andV_t, e_andV_f, e_andV, e_orV_t, e_orV_f, e_orV, e_notV1, e_notV, e_nil, e_cons2, e_cons1, e_cons, e_tk2, e_tk1, e_tk0, e_tk, e_tup2, e_tup1, e_tup, e_lst2, e_lst1, e_lst, e_da1, e_da0, e_da, e_cb2, e_cb1, e_cb, e_v_d, e_v_o, e_v_b, e_v, e_c, e_h_d, e_h_f, e_h_s, e_h_b, e_at1, e_at, e_lm, e_d_d, e_d_f, e_d_s, e_d_b, e_ts, e_t_d, e_t_f, e_t_s, e_p_d, e_p_l, e_p_t, e_put_d, e_put_f, e_put_b, e_bx1, e_bx, e_ap2, e_ap1, e_ap0, e_apS, e_ap, e_arg2, e_arg1, e_arg0, e_arg_b, e_arg_d, e_arg_s, e_cl3, e_cl2, e_cl1, e_cl, e_rv_d, e_rv_o, e_rv_b, e_df2, e_df_r, e_df_n, e_df, e_om, e_r_d, e_r_f, e_r_s, e_r_b, e_ff_n, e_ff_c, e_ff_b, e_ff_r, e_fg, e_fr1, e_fr, e_nm, e_im, e_it2, e_it1, e_it, e_i_l, e_i_t, e_lc3, e_lc1, e_lc, e_io1, e_io, e_iv2, e_iv_d, e_iv_o, e_iv, e_ch6, e_ch5, e_ch4t, e_ch4f, e_ch3, e_ch2, e_ch1, e_ch, e_so_d, e_so_f, e_pr3, e_pr2, e_pr1, e_pr, e_sl4, e_sl3, e_sl2, e_sl1, e_sl, e_nop, e_pt1, e_pt, o_sl_l, o_sl_t, e_yes, e_wp, e_wp0, e_wp1, e_re0, e_re1, e_kd_d, e_kd_o, e_kd_b, e_kd_n, o_add_i, o_add_s, o_add_l, o_add_t, o_sub, o_mul, o_div, o_mod, o_pow, o_lt_i, o_lt_s, o_le_i, o_le_s, o_gt_i, o_ge_i, o_ix_l, o_ix_t, o_ixK, o_len_l, o_len_t, o_len_s, o_int_i, o_int_b, o_abs, o_max, o_min, o_lst_l, o_lst_t, o_tup_l, o_tup_t, List.map_cons, List.map_nil, List.append_nil, List.nil_append, List.cons_append, List.length_cons, List.length_nil, List.getElem?_cons_zero, List.getElem?_cons_succ, List.set_cons_zero, List.set_cons_succ, if_true, if_false, List.replicate_zero, List.replicate_succ, List.length_set, Bool.not_true, Bool.not_false, decide_true, decide_false, true_and, and_true, Nat.reduceAdd, Nat.reduceLT, Nat.reduceLeDiff, reduceIte, reduceCtorEq, items_lot, k1, f1, eq_int, z1]
        rfl) fun x hx _ => ⟨.d x, rfl, rfl⟩
  rw [List.map_id, filter_lots] at key
  have e : ((partsL ns).filter fun z => partL a (strsOf (lotD z)) && partL (strsOf (lotD z)) c) = (partsL ns).filter fun l => partL a l && partL l c := List.filter_congr fun l _ => by rw [strsOf_lot]
  rw [e] at key
  exact key
end XN

set_option maxRecDepth 100000
set_option maxHeartbeats 4000000
/-! the law's word on a pair of lots, whole -/
namespace XN
open PySem PySem.Spec PyProof.Rows PySem.W L2 Evl XD

theorem eq_bool (a c : Bool) : opEq (.bool a) (.bool c) = some (.d (.bool (a == c))) := by
  have h : ∀ i : Bool, SeqAt.shaped (.bool i) = true := fun i => by
    show (PyData.canLay0 (.bool i) && decide (PyData.depth (.bool i) ≤ 64)) = true
    rw [PyData.canLay0, PyData.depth]
    rfl
  show (if SeqAt.shaped (.bool a) = true ∧ SeqAt.shaped (.bool c) = true then some (PV.d (.bool (PyData.eqv (.bool a) (.bool c)))) else none) = _
  rw [if_pos ⟨h a, h c⟩, PyData.eqv]
theorem between_sub {a c l : List Str} (h : l ∈ betweenL a c) : ∀ z ∈ l, z ∈ c := by
  unfold betweenL at h
  split at h
  · rename_i hp
    have h := (sortL_perm _).mem_iff.mp h
    obtain ⟨p, hm, rfl⟩ := List.mem_map.mp h
    intro z m
    rcases mem_united.mp m with q | q
    · exact part_iff.mp hp z q
    · exact (mem_less.mp ((mem_parts.mp hm).subset q)).1
  · cases h
theorem between_some {a c : List Str} : decide ((0 : Int) < (((lotsD (betweenL a c)).length : Nat) : Int)) = partL a c := by
  have e : (lotsD (betweenL a c)).length = (betweenL a c).length := List.length_map _
  rw [e]
  unfold betweenL
  cases hp : partL a c with
  | true =>
    rw [if_pos rfl, (sortL_perm _).length_eq, List.length_map, parts_count]
    have : 0 < 2 ^ (lessL c a).length := Nat.pow_pos (by decide)
    exact decide_eq_true (by omega)
  | false =>
    rw [if_neg (by decide)]
    exact decide_eq_false (by show ¬ (0 : Int) < ((0 : Nat) : Int); omega)
theorem pair_is {ns a c : List Str} {b : List Int} (on : ∀ z ∈ ns, nameL z = true) (od : Ord ns) (ha : a.Sublist ns) (hc : c.Sublist ns) (short : ns.length ≤ 5) :
    f__law_pair_right [.d (lotD a), .d (lotD c), .d (.list (lotsD (partsL ns)))] b = some (.d (.bool true), b) := by
  have oa := od.sub ha
  have oc := od.sub hc
  have na : ∀ z ∈ a, nameL z = true := fun z m => on z (ha.subset m)
  have nc : ∀ z ∈ c, nameL z = true := fun z m => on z (hc.subset m)
  have ka : Oks a := fun z m => name_ok (na z m)
  have kc : Oks c := fun z m => name_ok (nc z m)
  have la : a.length ≤ 5 := Nat.le_trans ha.length_le short
  have lc : c.length ≤ 5 := Nat.le_trans hc.length_le short
  have fa : Few a := Nat.lt_of_le_of_lt la (by decide)
  have fc : Few c := Nat.lt_of_le_of_lt lc (by decide)
  -- the program's answers
  have p1 : f_common [.d (lotD a), .d (lotD c)] b = _ := f_common_is ka kc fa
  have p2 : f_united [.d (lotD a), .d (lotD c)] b = _ := f_united_is (by omega)
  have p3 : f_less [.d (lotD a), .d (lotD c)] b = _ := f_less_is ka kc fa
  have p4 : f_is_part [.d (lotD a), .d (lotD c)] b = _ := f_is_part_is ka kc
  have p5 : f_lots_between [.d (lotD a), .d (lotD c)] b = _ := f_between_is ka kc (by omega) (by omega)
  -- the law's own
  have k1 := fold_in (all := strsD a) (e := [some (.d (lotD a)), some (.d (lotD c)), some (.d (.list (lotsD (partsL ns)))), none, none, none, none]) (b := b) (j := 1) (k := 5) (l := a) (m := c) rfl rfl ka kc
  have k2 := fold_ni (all := strsD c) (e := [some (.d (lotD a)), some (.d (lotD c)), some (.d (.list (lotsD (partsL ns)))), none, none, none, none]) (b := b) (j := 0) (k := 5) (l := c) (m := a) rfl rfl kc ka
  have k3 := fold_ni (all := strsD a) (e := [some (.d (lotD a)), some (.d (lotD c)), some (.d (.list (lotsD (partsL ns)))), none, none, none, none]) (b := b) (j := 1) (k := 5) (l := a) (m := c) rfl rfl ka kc
  have k4 := due_fold (w := some (.d (.bool (partL a c)))) (b := b) on ha hc (by omega)
  rw [between_eq od ha hc] at k4
  have s1 : (strsD (commonL a c)).length < 100000 := few_strs (few_filter fa)
  have s2 : (strsD (lessL c a)).length < 100000 := few_strs (few_filter fc)
  have s3 : (strsD (lessL a c)).length < 100000 := few_strs (few_filter fa)
  have lb : (betweenL a c).length ≤ 32 := by
    rw [← between_eq od ha hc]
    refine Nat.le_trans (List.length_filter_le _ _) ?_
    rw [parts_count]
    exact Nat.le_trans (Nat.pow_le_pow_right (by decide) short) (by decide)
  have s4 : (lotsD (betweenL a c)).length < 100000 := by
    show ((betweenL a c).map lotD).length < 100000
    rw [List.length_map]
    omega
  have lu : (unitedL a c).Sublist ns := od.subl (ord_united a c) fun z m => (mem_united.mp m).elim (fun q => ha.subset q) fun q => hc.subset q
  -- what is shown
  have r1 := repr_lot (l := commonL a c) (fun z m => na z (List.mem_filter.mp m).1) (Nat.le_trans (List.length_filter_le _ _) (by omega))
  have r1' : opRepr [.tuple (strsD (commonL a c))] = _ := r1
  have r2 := repr_lot (l := unitedL a c) (fun z m => on z (lu.subset m)) (Nat.le_trans lu.length_le (by omega))
  have r2' : opRepr [.tuple (strsD (unitedL a c))] = _ := r2
  have r3 := repr_lot (l := lessL a c) (fun z m => na z (List.mem_filter.mp m).1) (Nat.le_trans (List.length_filter_le _ _) (by omega))
  have r3' : opRepr [.tuple (strsD (lessL a c))] = _ := r3
  have r4 := repr_bool (partL a c)
  have r5 := repr_lots (ls := betweenL a c) (fun l hl => by
    have sub := between_sub hl
    rw [← between_eq od ha hc] at hl
    have sl := mem_parts.mp (List.mem_filter.mp hl).1
    exact ⟨fun z m => nc z (sub z m), Nat.le_trans sl.length_le (by omega)⟩) (by omega)
  have ad := list_add (x := a) (y := lessL c a) (by have : (lessL c a).length ≤ c.length := List.length_filter_le _ _; omega)
  have so := sort_strs_op (a ++ lessL c a)
  rw [united_alt oa.nd oc.nd] at so
  have lz := less_zero (a := a) (c := c)
  have bs := between_some (a := a) (c := c)
  have c3 : 3 < 7 := by decide
  have bb : (partL a c == partL a c) = true := by cases partL a c <;> rfl
  unfold f__law_pair_right g__law_pair_right
  simp only [e_op4, e_op3, e_op2, e_op1, e_op, e_un2, e_un1, e_un, e_seq_nx, e_seq_rt, e_seq_bk, e_seq_ct, e_seq, e_nx, e_bk, e_ct, e_put, e_set1, e_set, e_drop1, e_drop, e_ret1, e_ret, e_retN, e_if_t, e_if_f, e_ifS, e_ifE, e_test1, e_test, e_not1, e_not, e_and_t, e_and_f, e_and, e_or_t, e_or_f, e_or, e_andV_t, e_andV_f, e_andV, e_orV_t, e_orV_f, e_orV, e_notV1, e_notV, e_nil, e_cons2, e_cons1, e_cons, e_tk2, e_tk1, e_tk0, e_tk, e_tup2, e_tup1, e_tup, e_lst2, e_lst1, e_lst, e_da1, e_da0, e_da, e_cb2, e_cb1, e_cb, e_v_d, e_v_o, e_v_b, e_v, e_c, e_h_d, e_h_f, e_h_s, e_h_b, e_at1, e_at, e_lm, e_d_d, e_d_f, e_d_s, e_d_b, e_ts, e_t_d, e_t_f, e_t_s, e_p_d, e_p_l, e_p_t, e_put_d, e_put_f, e_put_b, e_bx1, e_bx, e_ap2, e_ap1, e_ap0, e_apS, e_ap, e_arg2, e_arg1, e_arg0, e_arg_b, e_arg_d, e_arg_s, e_cl3, e_cl2, e_cl1, e_cl, e_rv_d, e_rv_o, e_rv_b, e_df2, e_df_r, e_df_n, e_df, e_om, e_r_d, e_r_f, e_r_s, e_r_b, e_ff_n, e_ff_c, e_ff_b, e_ff_r, e_fg, e_fr1, e_fr, e_nm, e_im, e_it2, e_it1, e_it, e_i_l, e_i_t, e_lc3, e_lc1, e_lc, e_io1, e_io, e_iv2, e_iv_d, e_iv_o, e_iv, e_ch6, e_ch5, e_ch4t, e_ch4f, e_ch3, e_ch2, e_ch1, e_ch, e_so_d, e_so_f, e_pr3, e_pr2, e_pr1, e_pr, e_sl4, e_sl3, e_sl2, e_sl1, e_sl, e_nop, e_pt1, e_pt, o_sl_l, o_sl_t, e_yes, e_wp, e_wp0, e_wp1, e_re0, e_re1, e_kd_d, e_kd_o, e_kd_b, e_kd_n, o_add_i, o_add_s, o_add_l, o_add_t, o_sub, o_mul, o_div, o_mod, o_pow, o_lt_i, o_lt_s, o_le_i, o_le_s, o_gt_i, o_ge_i, o_ix_l, o_ix_t, o_ixK, o_len_l, o_len_t, o_len_s, o_int_i, o_int_b, o_abs, o_max, o_min, o_lst_l, o_lst_t, o_tup_l, o_tup_t, List.map_cons, List.map_nil, List.append_nil, List.nil_append, List.cons_append, List.length_cons, List.length_nil, List.getElem?_cons_zero, List.getElem?_cons_succ, List.set_cons_zero, List.set_cons_succ, if_true, if_false, List.replicate_zero, List.replicate_succ, List.length_set, Bool.not_true, Bool.not_false, decide_true, decide_false, true_and, and_true, Nat.reduceAdd, Nat.reduceLT, Nat.reduceLeDiff, reduceIte, reduceCtorEq, p1, items_lot, k1, s1, r1, r1', ne_same]
  simp only [e_op4, e_op3, e_op2, e_op1, e_op, e_un2, e_un1, e_un, e_seq_nx, e_seq_rt, e_seq_bk, e_seq_ct, e_seq, e_nx, e_bk, e_ct, e_put, e_set1, e_set, e_drop1, e_drop, e_ret1, e_ret, e_retN, e_if_t, e_if_f, e_ifS, e_ifE, e_test1, e_test, e_not1, e_not, e_and_t, e_and_f, e_and, e_or_t, e_or_f, e_or, e_andV_t, e_andV_f, e_andV, e_orV_t, e_orV_f, e_orV, e_notV1, e_notV, e_nil, e_cons2, e_cons1, e_cons, e_tk2, e_tk1, e_tk0, e_tk, e_tup2, e_tup1, e_tup, e_lst2, e_lst1, e_lst, e_da1, e_da0, e_da, e_cb2, e_cb1, e_cb, e_v_d, e_v_o, e_v_b, e_v, e_c, e_h_d, e_h_f, e_h_s, e_h_b, e_at1, e_at, e_lm, e_d_d, e_d_f, e_d_s, e_d_b, e_ts, e_t_d, e_t_f, e_t_s, e_p_d, e_p_l, e_p_t, e_put_d, e_put_f, e_put_b, e_bx1, e_bx, e_ap2, e_ap1, e_ap0, e_apS, e_ap, e_arg2, e_arg1, e_arg0, e_arg_b, e_arg_d, e_arg_s, e_cl3, e_cl2, e_cl1, e_cl, e_rv_d, e_rv_o, e_rv_b, e_df2, e_df_r, e_df_n, e_df, e_om, e_r_d, e_r_f, e_r_s, e_r_b, e_ff_n, e_ff_c, e_ff_b, e_ff_r, e_fg, e_fr1, e_fr, e_nm, e_im, e_it2, e_it1, e_it, e_i_l, e_i_t, e_lc3, e_lc1, e_lc, e_io1, e_io, e_iv2, e_iv_d, e_iv_o, e_iv, e_ch6, e_ch5, e_ch4t, e_ch4f, e_ch3, e_ch2, e_ch1, e_ch, e_so_d, e_so_f, e_pr3, e_pr2, e_pr1, e_pr, e_sl4, e_sl3, e_sl2, e_sl1, e_sl, e_nop, e_pt1, e_pt, o_sl_l, o_sl_t, e_yes, e_wp, e_wp0, e_wp1, e_re0, e_re1, e_kd_d, e_kd_o, e_kd_b, e_kd_n, o_add_i, o_add_s, o_add_l, o_add_t, o_sub, o_mul, o_div, o_mod, o_pow, o_lt_i, o_lt_s, o_le_i, o_le_s, o_gt_i, o_ge_i, o_ix_l, o_ix_t, o_ixK, o_len_l, o_len_t, o_len_s, o_int_i, o_int_b, o_abs, o_max, o_min, o_lst_l, o_lst_t, o_tup_l, o_tup_t, List.map_cons, List.map_nil, List.append_nil, List.nil_append, List.cons_append, List.length_cons, List.length_nil, List.getElem?_cons_zero, List.getElem?_cons_succ, List.set_cons_zero, List.set_cons_succ, if_true, if_false, List.replicate_zero, List.replicate_succ, List.length_set, Bool.not_true, Bool.not_false, decide_true, decide_false, true_and, and_true, Nat.reduceAdd, Nat.reduceLT, Nat.reduceLeDiff, reduceIte, reduceCtorEq, p2, op_list_lot, items_lot, k2, s2, ad, so, r2, r2', ne_same]
  simp only [e_op4, e_op3, e_op2, e_op1, e_op, e_un2, e_un1, e_un, e_seq_nx, e_seq_rt, e_seq_bk, e_seq_ct, e_seq, e_nx, e_bk, e_ct, e_put, e_set1, e_set, e_drop1, e_drop, e_ret1, e_ret, e_retN, e_if_t, e_if_f, e_ifS, e_ifE, e_test1, e_test, e_not1, e_not, e_and_t, e_and_f, e_and, e_or_t, e_or_f, e_or, e_andV_t, e_andV_f, e_andV, e_orV_t, e_orV_f, e_orV, e_notV1, e_notV, e_nil, e_cons2, e_cons1, e_cons, e_tk2, e_tk1, e_tk0, e_tk, e_tup2, e_tup1, e_tup, e_lst2, e_lst1, e_lst, e_da1, e_da0, e_da, e_cb2, e_cb1, e_cb, e_v_d, e_v_o, e_v_b, e_v, e_c, e_h_d, e_h_f, e_h_s, e_h_b, e_at1, e_at, e_lm, e_d_d, e_d_f, e_d_s, e_d_b, e_ts, e_t_d, e_t_f, e_t_s, e_p_d, e_p_l, e_p_t, e_put_d, e_put_f, e_put_b, e_bx1, e_bx, e_ap2, e_ap1, e_ap0, e_apS, e_ap, e_arg2, e_arg1, e_arg0, e_arg_b, e_arg_d, e_arg_s, e_cl3, e_cl2, e_cl1, e_cl, e_rv_d, e_rv_o, e_rv_b, e_df2, e_df_r, e_df_n, e_df, e_om, e_r_d, e_r_f, e_r_s, e_r_b, e_ff_n, e_ff_c, e_ff_b, e_ff_r, e_fg, e_fr1, e_fr, e_nm, e_im, e_it2, e_it1, e_it, e_i_l, e_i_t, e_lc3, e_lc1, e_lc, e_io1, e_io, e_iv2, e_iv_d, e_iv_o, e_iv, e_ch6, e_ch5, e_ch4t, e_ch4f, e_ch3, e_ch2, e_ch1, e_ch, e_so_d, e_so_f, e_pr3, e_pr2, e_pr1, e_pr, e_sl4, e_sl3, e_sl2, e_sl1, e_sl, e_nop, e_pt1, e_pt, o_sl_l, o_sl_t, e_yes, e_wp, e_wp0, e_wp1, e_re0, e_re1, e_kd_d, e_kd_o, e_kd_b, e_kd_n, o_add_i, o_add_s, o_add_l, o_add_t, o_sub, o_mul, o_div, o_mod, o_pow, o_lt_i, o_lt_s, o_le_i, o_le_s, o_gt_i, o_ge_i, o_ix_l, o_ix_t, o_ixK, o_len_l, o_len_t, o_len_s, o_int_i, o_int_b, o_abs, o_max, o_min, o_lst_l, o_lst_t, o_tup_l, o_tup_t, List.map_cons, List.map_nil, List.append_nil, List.nil_append, List.cons_append, List.length_cons, List.length_nil, List.getElem?_cons_zero, List.getElem?_cons_succ, List.set_cons_zero, List.set_cons_succ, if_true, if_false, List.replicate_zero, List.replicate_succ, List.length_set, Bool.not_true, Bool.not_false, decide_true, decide_false, true_and, and_true, Nat.reduceAdd, Nat.reduceLT, Nat.reduceLeDiff, reduceIte, reduceCtorEq, p3, items_lot, k3, s3, r3, r3', ne_same]
  simp only [e_op4, e_op3, e_op2, e_op1, e_op, e_un2, e_un1, e_un, e_seq_nx, e_seq_rt, e_seq_bk, e_seq_ct, e_seq, e_nx, e_bk, e_ct, e_put, e_set1, e_set, e_drop1, e_drop, e_ret1, e_ret, e_retN, e_if_t, e_if_f, e_ifS, e_ifE, e_test1, e_test, e_not1, e_not, e_and_t, e_and_f, e_and, e_or_t, e_or_f, e_or, e_andV_t, e_andV_f, e_andV, e_orV_t, e_orV_f, e_orV, e_notV1, e_notV, e_nil, e_cons2, e_cons1, e_cons, e_tk2, e_tk1, e_tk0, e_tk, e_tup2, e_tup1, e_tup, e_lst2, e_lst1, e_lst, e_da1, e_da0, e_da, e_cb2, e_cb1, e_cb, e_v_d, e_v_o, e_v_b, e_v, e_c, e_h_d, e_h_f, e_h_s, e_h_b, e_at1, e_at, e_lm, e_d_d, e_d_f, e_d_s, e_d_b, e_ts, e_t_d, e_t_f, e_t_s, e_p_d, e_p_l, e_p_t, e_put_d, e_put_f, e_put_b, e_bx1, e_bx, e_ap2, e_ap1, e_ap0, e_apS, e_ap, e_arg2, e_arg1, e_arg0, e_arg_b, e_arg_d, e_arg_s, e_cl3, e_cl2, e_cl1, e_cl, e_rv_d, e_rv_o, e_rv_b, e_df2, e_df_r, e_df_n, e_df, e_om, e_r_d, e_r_f, e_r_s, e_r_b, e_ff_n, e_ff_c, e_ff_b, e_ff_r, e_fg, e_fr1, e_fr, e_nm, e_im, e_it2, e_it1, e_it, e_i_l, e_i_t, e_lc3, e_lc1, e_lc, e_io1, e_io, e_iv2, e_iv_d, e_iv_o, e_iv, e_ch6, e_ch5, e_ch4t, e_ch4f, e_ch3, e_ch2, e_ch1, e_ch, e_so_d, e_so_f, e_pr3, e_pr2, e_pr1, e_pr, e_sl4, e_sl3, e_sl2, e_sl1, e_sl, e_nop, e_pt1, e_pt, o_sl_l, o_sl_t, e_yes, e_wp, e_wp0, e_wp1, e_re0, e_re1, e_kd_d, e_kd_o, e_kd_b, e_kd_n, o_add_i, o_add_s, o_add_l, o_add_t, o_sub, o_mul, o_div, o_mod, o_pow, o_lt_i, o_lt_s, o_le_i, o_le_s, o_gt_i, o_ge_i, o_ix_l, o_ix_t, o_ixK, o_len_l, o_len_t, o_len_s, o_int_i, o_int_b, o_abs, o_max, o_min, o_lst_l, o_lst_t, o_tup_l, o_tup_t, List.map_cons, List.map_nil, List.append_nil, List.nil_append, List.cons_append, List.length_cons, List.length_nil, List.getElem?_cons_zero, List.getElem?_cons_succ, List.set_cons_zero, List.set_cons_succ, if_true, if_false, List.replicate_zero, List.replicate_succ, List.length_set, Bool.not_true, Bool.not_false, decide_true, decide_false, true_and, and_true, Nat.reduceAdd, Nat.reduceLT, Nat.reduceLeDiff, reduceIte, reduceCtorEq, items_lot, k3, s3, eq_int, lz, p4, r4, ne_same]
  simp only [e_op4, e_op3, e_op2, e_op1, e_op, e_un2, e_un1, e_un, e_seq_nx, e_seq_rt, e_seq_bk, e_seq_ct, e_seq, e_nx, e_bk, e_ct, e_put, e_set1, e_set, e_drop1, e_drop, e_ret1, e_ret, e_retN, e_if_t, e_if_f, e_ifS, e_ifE, e_test1, e_test, e_not1, e_not, e_and_t, e_and_f, e_and, e_or_t, e_or_f, e_or, e_andV_t, e_andV_f, e_andV, e_orV_t, e_orV_f, e_orV, e_notV1, e_notV, e_nil, e_cons2, e_cons1, e_cons, e_tk2, e_tk1, e_tk0, e_tk, e_tup2, e_tup1, e_tup, e_lst2, e_lst1, e_lst, e_da1, e_da0, e_da, e_cb2, e_cb1, e_cb, e_v_d, e_v_o, e_v_b, e_v, e_c, e_h_d, e_h_f, e_h_s, e_h_b, e_at1, e_at, e_lm, e_d_d, e_d_f, e_d_s, e_d_b, e_ts, e_t_d, e_t_f, e_t_s, e_p_d, e_p_l, e_p_t, e_put_d, e_put_f, e_put_b, e_bx1, e_bx, e_ap2, e_ap1, e_ap0, e_apS, e_ap, e_arg2, e_arg1, e_arg0, e_arg_b, e_arg_d, e_arg_s, e_cl3, e_cl2, e_cl1, e_cl, e_rv_d, e_rv_o, e_rv_b, e_df2, e_df_r, e_df_n, e_df, e_om, e_r_d, e_r_f, e_r_s, e_r_b, e_ff_n, e_ff_c, e_ff_b, e_ff_r, e_fg, e_fr1, e_fr, e_nm, e_im, e_it2, e_it1, e_it, e_i_l, e_i_t, e_lc3, e_lc1, e_lc, e_io1, e_io, e_iv2, e_iv_d, e_iv_o, e_iv, e_ch6, e_ch5, e_ch4t, e_ch4f, e_ch3, e_ch2, e_ch1, e_ch, e_so_d, e_so_f, e_pr3, e_pr2, e_pr1, e_pr, e_sl4, e_sl3, e_sl2, e_sl1, e_sl, e_nop, e_pt1, e_pt, o_sl_l, o_sl_t, e_yes, e_wp, e_wp0, e_wp1, e_re0, e_re1, e_kd_d, e_kd_o, e_kd_b, e_kd_n, o_add_i, o_add_s, o_add_l, o_add_t, o_sub, o_mul, o_div, o_mod, o_pow, o_lt_i, o_lt_s, o_le_i, o_le_s, o_gt_i, o_ge_i, o_ix_l, o_ix_t, o_ixK, o_len_l, o_len_t, o_len_s, o_int_i, o_int_b, o_abs, o_max, o_min, o_lst_l, o_lst_t, o_tup_l, o_tup_t, List.map_cons, List.map_nil, List.append_nil, List.nil_append, List.cons_append, List.length_cons, List.length_nil, List.getElem?_cons_zero, List.getElem?_cons_succ, List.set_cons_zero, List.set_cons_succ, if_true, if_false, List.replicate_zero, List.replicate_succ, List.length_set, Bool.not_true, Bool.not_false, decide_true, decide_false, true_and, and_true, Nat.reduceAdd, Nat.reduceLT, Nat.reduceLeDiff, reduceIte, reduceCtorEq, k4, s4, p5, r5, eq_same, bs, eq_bool, bb]
end XN

set_option maxRecDepth 100000
set_option maxHeartbeats 4000000
/-! inside; the law's word on wide lots -/
namespace XN
open PySem PySem.Spec PyProof.Rows PySem.W L2 Evl XD

theorem ne_lots {a c : List Str} (ha : Oks a) (hc : Oks c) : opNe (lotD a) (lotD c) = some (.d (.bool (!decide (a = c)))) := by
  show (if SeqAt.shaped (lotD a) = true ∧ SeqAt.shaped (lotD c) = true then some (PV.d (.bool (!PyData.eqv (lotD a) (lotD c)))) else none) = _
  rw [if_pos ⟨shaped_lot ha, shaped_lot hc⟩, eqv_lot]
def insideL (a c : List Str) : Bool := !decide (a = c) && partL a c
theorem inside_is {a c : List Str} {b : List Int} (ha : Oks a) (hc : Oks c) (fa : Few a) : f__law_inside [.d (lotD a), .d (lotD c)] b = some (.d (.bool (insideL a c)), b) := by
  have k := fold_ni (all := strsD a) (e := [some (.d (lotD a)), some (.d (lotD c)), none]) (b := b) (j := 1) (k := 2) (l := a) (m := c) rfl rfl ha hc
  have s := few_strs (few_filter (p := fun z => !decide (z ∈ c)) fa)
  have s' : (strsD (lessL a c)).length < 100000 := s
  have lz := less_zero (a := a) (c := c)
  have n := ne_lots ha hc
  unfold f__law_inside g__law_inside
  cases h : decide (a = c) with
  | true =>
    rw [h] at n
    simp only [e_op4, e_op3, e_op2, e_op1, e_op, e_un2, e_un1, e_un, e_seq_nx, e_seq_rt, e_seq_bk, e_seq_ct, e_seq, e_nx, e_bk, e_ct, e_put, e_set1, e_set, e_drop1, e_drop, e_ret1, e_ret, e_retN, e_if_t, e_if_f, e_ifS, e_ifE, e_test1, e_test, e_not1, e_not, e_and_t, e_and_f, e_and, e_or_t, e_or_f, e_or, e_andV_t, e_andV_f, e_andV, e_orV_t, e_orV_f, e_orV, e_notV1, e_notV, e_nil, e_cons2, e_cons1, e_cons, e_tk2, e_tk1, e_tk0, e_tk, e_tup2, e_tup1, e_tup, e_lst2, e_lst1, e_lst, e_da1, e_da0, e_da, e_cb2, e_cb1, e_cb, e_v_d, e_v_o, e_v_b, e_v, e_c, e_h_d, e_h_f, e_h_s, e_h_b, e_at1, e_at, e_lm, e_d_d, e_d_f, e_d_s, e_d_b, e_ts, e_t_d, e_t_f, e_t_s, e_p_d, e_p_l, e_p_t, e_put_d, e_put_f, e_put_b, e_bx1, e_bx, e_ap2, e_ap1, e_ap0, e_apS, e_ap, e_arg2, e_arg1, e_arg0, e_arg_b, e_arg_d, e_arg_s, e_cl3, e_cl2, e_cl1, e_cl, e_rv_d, e_rv_o, e_rv_b, e_df2, e_df_r, e_df_n, e_df, e_om, e_r_d, e_r_f, e_r_s, e_r_b, e_ff_n, e_ff_c, e_ff_b, e_ff_r, e_fg, e_fr1, e_fr, e_nm, e_im, e_it2, e_it1, e_it, e_i_l, e_i_t, e_lc3, e_lc1, e_lc, e_io1, e_io, e_iv2, e_iv_d, e_iv_o, e_iv, e_ch6, e_ch5, e_ch4t, e_ch4f, e_ch3, e_ch2, e_ch1, e_ch, e_so_d, e_so_f, e_pr3, e_pr2, e_pr1, e_pr, e_sl4, e_sl3, e_sl2, e_sl1, e_sl, e_nop, e_pt1, e_pt, o_sl_l, o_sl_t, e_yes, e_wp, e_wp0, e_wp1, e_re0, e_re1, e_kd_d, e_kd_o, e_kd_b, e_kd_n, o_add_i, o_add_s, o_add_l, o_add_t, o_sub, o_mul, o_div, o_mod, o_pow, o_lt_i, o_lt_s, o_le_i, o_le_s, o_gt_i, o_ge_i, o_ix_l, o_ix_t, o_ixK, o_len_l, o_len_t, o_len_s, o_int_i, o_int_b, o_abs, o_max, o_min, o_lst_l, o_lst_t, o_tup_l, o_tup_t, List.map_cons, List.map_nil, List.append_nil, List.nil_append, List.cons_append, List.length_cons, List.length_nil, List.getElem?_cons_zero, List.getElem?_cons_succ, List.set_cons_zero, List.set_cons_succ, if_true, if_false, List.replicate_zero, List.replicate_succ, List.length_set, Bool.not_true, Bool.not_false, decide_true, decide_false, true_and, and_true, Nat.reduceAdd, Nat.reduceLT, Nat.reduceLeDiff, reduceIte, reduceCtorEq, n]
    unfold insideL
    rw [h]
    rfl
  | false =>
    rw [h] at n
    simp only [e_op4, e_op3, e_op2, e_op1, e_op, e_un2, e_un1, e_un, e_seq_nx, e_seq_rt, e_seq_bk, e_seq_ct, e_seq, e_nx, e_bk, e_ct, e_put, e_set1, e_set, e_drop1, e_drop, e_ret1, e_ret, e_retN, e_if_t, e_if_f, e_ifS, e_ifE, e_test1, e_test, e_not1, e_not, e_and_t, e_and_f, e_and, e_or_t, e_or_f, e_or, e_andV_t, e_andV_f, e_andV, e_orV_t, e_orV_f, e_orV, e_notV1, e_notV, e_nil, e_cons2, e_cons1, e_cons, e_tk2, e_tk1, e_tk0, e_tk, e_tup2, e_tup1, e_tup, e_lst2, e_lst1, e_lst, e_da1, e_da0, e_da, e_cb2, e_cb1, e_cb, e_v_d, e_v_o, e_v_b, e_v, e_c, e_h_d, e_h_f, e_h_s, e_h_b, e_at1, e_at, e_lm, e_d_d, e_d_f, e_d_s, e_d_b, e_ts, e_t_d, e_t_f, e_t_s, e_p_d, e_p_l, e_p_t, e_put_d, e_put_f, e_put_b, e_bx1, e_bx, e_ap2, e_ap1, e_ap0, e_apS, e_ap, e_arg2, e_arg1, e_arg0, e_arg_b, e_arg_d, e_arg_s, e_cl3, e_cl2, e_cl1, e_cl, e_rv_d, e_rv_o, e_rv_b, e_df2, e_df_r, e_df_n, e_df, e_om, e_r_d, e_r_f, e_r_s, e_r_b, e_ff_n, e_ff_c, e_ff_b, e_ff_r, e_fg, e_fr1, e_fr, e_nm, e_im, e_it2, e_it1, e_it, e_i_l, e_i_t, e_lc3, e_lc1, e_lc, e_io1, e_io, e_iv2, e_iv_d, e_iv_o, e_iv, e_ch6, e_ch5, e_ch4t, e_ch4f, e_ch3, e_ch2, e_ch1, e_ch, e_so_d, e_so_f, e_pr3, e_pr2, e_pr1, e_pr, e_sl4, e_sl3, e_sl2, e_sl1, e_sl, e_nop, e_pt1, e_pt, o_sl_l, o_sl_t, e_yes, e_wp, e_wp0, e_wp1, e_re0, e_re1, e_kd_d, e_kd_o, e_kd_b, e_kd_n, o_add_i, o_add_s, o_add_l, o_add_t, o_sub, o_mul, o_div, o_mod, o_pow, o_lt_i, o_lt_s, o_le_i, o_le_s, o_gt_i, o_ge_i, o_ix_l, o_ix_t, o_ixK, o_len_l, o_len_t, o_len_s, o_int_i, o_int_b, o_abs, o_max, o_min, o_lst_l, o_lst_t, o_tup_l, o_tup_t, List.map_cons, List.map_nil, List.append_nil, List.nil_append, List.cons_append, List.length_cons, List.length_nil, List.getElem?_cons_zero, List.getElem?_cons_succ, List.set_cons_zero, List.set_cons_succ, if_true, if_false, List.replicate_zero, List.replicate_succ, List.length_set, Bool.not_true, Bool.not_false, decide_true, decide_false, true_and, and_true, Nat.reduceAdd, Nat.reduceLT, Nat.reduceLeDiff, reduceIte, reduceCtorEq, n, items_lot, k, s', eq_int, lz]
    unfold insideL
    rw [h]
    rfl
theorem cut_7 (l : List Str) : cutD (strsD l) none (some 7) = strsD (l.take 7) := by
  unfold cutD
  have e : (strsD l).length = l.length := List.length_map _
  have h0 : HT.sIx (strsD l).length 0 none = 0 := HT.sIx_none ..
  have h7 : HT.sIx (strsD l).length (strsD l).length (some 7) = min 7 l.length := by
    rw [e]
    exact HT.sIx_nat l.length l.length 7
  rw [h0, h7, List.drop_zero, Nat.sub_zero]
  show (l.map PyData.str).take (min 7 l.length) = (l.take 7).map PyData.str
  rw [List.map_take]
  by_cases h : 7 ≤ l.length
  · rw [Nat.min_eq_left h]
  · rw [Nat.min_eq_right (by omega), List.take_of_length_le (by rw [List.length_map]; exact Nat.le_refl _), List.take_of_length_le (by rw [List.length_map]; omega)]
theorem tup_lots (ls : List (List Str)) : opTup [.list (lotsD ls)] = some (.t (lotsD ls)) := rfl
theorem wide_is {b : List Int} (hb : Bx b) : ∃ b', f__law_wide_right [.bx] b = some (.d (.bool true), b') ∧ Bx b' := by
  obtain ⟨ns, b1, e1, hb1, hn, hl, _, hs⟩ := names_is (many := 10) hb ⟨by decide, by decide⟩
  have fn : Few ns := by
    show ns.length < 1000
    omega
  obtain ⟨a, b2, e2, ha, hb2⟩ := lot_is (l := ns) hb1 fn
  obtain ⟨c, b3, e3, hc, hb3⟩ := lot_is (l := ns) hb2 fn
  have od : Ord ns := ⟨hn.2, hs⟩
  have on := hn.1
  have oa := od.sub ha
  have oc := od.sub hc
  have na : ∀ z ∈ a, nameL z = true := fun z m => on z (ha.subset m)
  have nc : ∀ z ∈ c, nameL z = true := fun z m => on z (hc.subset m)
  have ka : Oks a := fun z m => name_ok (na z m)
  have kc : Oks c := fun z m => name_ok (nc z m)
  have la : a.length ≤ 10 := Nat.le_trans ha.length_le (by omega)
  have lc : c.length ≤ 10 := Nat.le_trans hc.length_le (by omega)
  have fa : Few a := Nat.lt_of_le_of_lt la (by decide)
  have fc : Few c := Nat.lt_of_le_of_lt lc (by decide)
  have p1 : f_common [.d (lotD a), .d (lotD c)] b3 = _ := f_common_is ka kc fa
  have p2 : f_united [.d (lotD a), .d (lotD c)] b3 = _ := f_united_is (by omega)
  have p3 : f_less [.d (lotD c), .d (lotD a)] b3 = _ := f_less_is kc ka fc
  have tl : (ns.take 7).length ≤ 7 := by
    rw [List.length_take]
    omega
  have p4 : f_parts_of [.d (lotD (ns.take 7))] b3 = _ := f_parts_is (by omega)
  have p4' : f_parts_of [.d (.tuple (strsD (ns.take 7)))] b3 = _ := p4
  have p5 : f__law_all [.d (.list (strsD (ns.take 7)))] b3 = _ := all_is (by omega)
  have k1 := fold_in (all := strsD a) (e := [some .bx, some (.d (.list (strsD ns))), some (.d (lotD a)), some (.d (lotD c)), none]) (b := b3) (j := 3) (k := 4) (l := a) (m := c) rfl rfl ka kc
  have k2 := fold_ni (all := strsD c) (e := [some .bx, some (.d (.list (strsD ns))), some (.d (lotD a)), some (.d (lotD c)), none]) (b := b3) (j := 2) (k := 4) (l := c) (m := a) rfl rfl kc ka
  have s1 : (strsD (commonL a c)).length < 100000 := few_strs (few_filter fa)
  have s2 : (strsD (lessL c a)).length < 100000 := few_strs (few_filter fc)
  have lu : (unitedL a c).Sublist ns := od.subl (ord_united a c) fun z m => (mem_united.mp m).elim (fun q => ha.subset q) fun q => hc.subset q
  have r1 := repr_lot (l := commonL a c) (fun z m => na z (List.mem_filter.mp m).1) (Nat.le_trans (List.length_filter_le _ _) (by omega))
  have r1' : opRepr [.tuple (strsD (commonL a c))] = _ := r1
  have r2 := repr_lot (l := unitedL a c) (fun z m => on z (lu.subset m)) (Nat.le_trans lu.length_le (by omega))
  have r2' : opRepr [.tuple (strsD (unitedL a c))] = _ := r2
  have r3 := repr_lot (l := lessL c a) (fun z m => nc z (List.mem_filter.mp m).1) (Nat.le_trans (List.length_filter_le _ _) (by omega))
  have r3' : opRepr [.tuple (strsD (lessL c a))] = _ := r3
  have r4 := repr_lots (ls := partsL (ns.take 7)) (fun l hl' => by
    have sl := mem_parts.mp hl'
    exact ⟨fun z m => on z ((List.take_sublist 7 ns).subset (sl.subset m)), Nat.le_trans sl.length_le (by omega)⟩) (by
    rw [parts_count]
    exact Nat.le_trans (Nat.pow_le_pow_right (by decide) tl) (by decide))
  have ad := list_add (x := a) (y := lessL c a) (by have : (lessL c a).length ≤ c.length := List.length_filter_le _ _; omega)
  have so := sort_strs_op (a ++ lessL c a)
  rw [united_alt oa.nd oc.nd] at so
  refine ⟨b3, ?_, hb3⟩
  unfold f__law_wide_right g__law_wide_right
  simp only [e_op4, e_op3, e_op2, e_op1, e_op, e_un2, e_un1, e_un, e_seq_nx, e_seq_rt, e_seq_bk, e_seq_ct, e_seq, e_nx, e_bk, e_ct, e_put, e_set1, e_set, e_drop1, e_drop, e_ret1, e_ret, e_retN, e_if_t, e_if_f, e_ifS, e_ifE, e_test1, e_test, e_not1, e_not, e_and_t, e_and_f, e_and, e_or_t, e_or_f, e_or, e_andV_t, e_andV_f, e_andV, e_orV_t, e_orV_f, e_orV, e_notV1, e_notV, e_nil, e_cons2, e_cons1, e_cons, e_tk2, e_tk1, e_tk0, e_tk, e_tup2, e_tup1, e_tup, e_lst2, e_lst1, e_lst, e_da1, e_da0, e_da, e_cb2, e_cb1, e_cb, e_v_d, e_v_o, e_v_b, e_v, e_c, e_h_d, e_h_f, e_h_s, e_h_b, e_at1, e_at, e_lm, e_d_d, e_d_f, e_d_s, e_d_b, e_ts, e_t_d, e_t_f, e_t_s, e_p_d, e_p_l, e_p_t, e_put_d, e_put_f, e_put_b, e_bx1, e_bx, e_ap2, e_ap1, e_ap0, e_apS, e_ap, e_arg2, e_arg1, e_arg0, e_arg_b, e_arg_d, e_arg_s, e_cl3, e_cl2, e_cl1, e_cl, e_rv_d, e_rv_o, e_rv_b, e_df2, e_df_r, e_df_n, e_df, e_om, e_r_d, e_r_f, e_r_s, e_r_b, e_ff_n, e_ff_c, e_ff_b, e_ff_r, e_fg, e_fr1, e_fr, e_nm, e_im, e_it2, e_it1, e_it, e_i_l, e_i_t, e_lc3, e_lc1, e_lc, e_io1, e_io, e_iv2, e_iv_d, e_iv_o, e_iv, e_ch6, e_ch5, e_ch4t, e_ch4f, e_ch3, e_ch2, e_ch1, e_ch, e_so_d, e_so_f, e_pr3, e_pr2, e_pr1, e_pr, e_sl4, e_sl3, e_sl2, e_sl1, e_sl, e_nop, e_pt1, e_pt, o_sl_l, o_sl_t, e_yes, e_wp, e_wp0, e_wp1, e_re0, e_re1, e_kd_d, e_kd_o, e_kd_b, e_kd_n, o_add_i, o_add_s, o_add_l, o_add_t, o_sub, o_mul, o_div, o_mod, o_pow, o_lt_i, o_lt_s, o_le_i, o_le_s, o_gt_i, o_ge_i, o_ix_l, o_ix_t, o_ixK, o_len_l, o_len_t, o_len_s, o_int_i, o_int_b, o_abs, o_max, o_min, o_lst_l, o_lst_t, o_tup_l, o_tup_t, List.map_cons, List.map_nil, List.append_nil, List.nil_append, List.cons_append, List.length_cons, List.length_nil, List.getElem?_cons_zero, List.getElem?_cons_succ, List.set_cons_zero, List.set_cons_succ, if_true, if_false, List.replicate_zero, List.replicate_succ, List.length_set, Bool.not_true, Bool.not_false, decide_true, decide_false, true_and, and_true, Nat.reduceAdd, Nat.reduceLT, Nat.reduceLeDiff, reduceIte, reduceCtorEq, e1, e2, e3, ne_eq, Nat.reduceEqDiff, not_false_eq_true]
  simp only [e_op4, e_op3, e_op2, e_op1, e_op, e_un2, e_un1, e_un, e_seq_nx, e_seq_rt, e_seq_bk, e_seq_ct, e_seq, e_nx, e_bk, e_ct, e_put, e_set1, e_set, e_drop1, e_drop, e_ret1, e_ret, e_retN, e_if_t, e_if_f, e_ifS, e_ifE, e_test1, e_test, e_not1, e_not, e_and_t, e_and_f, e_and, e_or_t, e_or_f, e_or, e_andV_t, e_andV_f, e_andV, e_orV_t, e_orV_f, e_orV, e_notV1, e_notV, e_nil, e_cons2, e_cons1, e_cons, e_tk2, e_tk1, e_tk0, e_tk, e_tup2, e_tup1, e_tup, e_lst2, e_lst1, e_lst, e_da1, e_da0, e_da, e_cb2, e_cb1, e_cb, e_v_d, e_v_o, e_v_b, e_v, e_c, e_h_d, e_h_f, e_h_s, e_h_b, e_at1, e_at, e_lm, e_d_d, e_d_f, e_d_s, e_d_b, e_ts, e_t_d, e_t_f, e_t_s, e_p_d, e_p_l, e_p_t, e_put_d, e_put_f, e_put_b, e_bx1, e_bx, e_ap2, e_ap1, e_ap0, e_apS, e_ap, e_arg2, e_arg1, e_arg0, e_arg_b, e_arg_d, e_arg_s, e_cl3, e_cl2, e_cl1, e_cl, e_rv_d, e_rv_o, e_rv_b, e_df2, e_df_r, e_df_n, e_df, e_om, e_r_d, e_r_f, e_r_s, e_r_b, e_ff_n, e_ff_c, e_ff_b, e_ff_r, e_fg, e_fr1, e_fr, e_nm, e_im, e_it2, e_it1, e_it, e_i_l, e_i_t, e_lc3, e_lc1, e_lc, e_io1, e_io, e_iv2, e_iv_d, e_iv_o, e_iv, e_ch6, e_ch5, e_ch4t, e_ch4f, e_ch3, e_ch2, e_ch1, e_ch, e_so_d, e_so_f, e_pr3, e_pr2, e_pr1, e_pr, e_sl4, e_sl3, e_sl2, e_sl1, e_sl, e_nop, e_pt1, e_pt, o_sl_l, o_sl_t, e_yes, e_wp, e_wp0, e_wp1, e_re0, e_re1, e_kd_d, e_kd_o, e_kd_b, e_kd_n, o_add_i, o_add_s, o_add_l, o_add_t, o_sub, o_mul, o_div, o_mod, o_pow, o_lt_i, o_lt_s, o_le_i, o_le_s, o_gt_i, o_ge_i, o_ix_l, o_ix_t, o_ixK, o_len_l, o_len_t, o_len_s, o_int_i, o_int_b, o_abs, o_max, o_min, o_lst_l, o_lst_t, o_tup_l, o_tup_t, List.map_cons, List.map_nil, List.append_nil, List.nil_append, List.cons_append, List.length_cons, List.length_nil, List.getElem?_cons_zero, List.getElem?_cons_succ, List.set_cons_zero, List.set_cons_succ, if_true, if_false, List.replicate_zero, List.replicate_succ, List.length_set, Bool.not_true, Bool.not_false, decide_true, decide_false, true_and, and_true, Nat.reduceAdd, Nat.reduceLT, Nat.reduceLeDiff, reduceIte, reduceCtorEq, p2, op_list_lot, items_lot, k2, s2, ad, so, r2, r2', ne_same]
  simp only [e_op4, e_op3, e_op2, e_op1, e_op, e_un2, e_un1, e_un, e_seq_nx, e_seq_rt, e_seq_bk, e_seq_ct, e_seq, e_nx, e_bk, e_ct, e_put, e_set1, e_set, e_drop1, e_drop, e_ret1, e_ret, e_retN, e_if_t, e_if_f, e_ifS, e_ifE, e_test1, e_test, e_not1, e_not, e_and_t, e_and_f, e_and, e_or_t, e_or_f, e_or, e_andV_t, e_andV_f, e_andV, e_orV_t, e_orV_f, e_orV, e_notV1, e_notV, e_nil, e_cons2, e_cons1, e_cons, e_tk2, e_tk1, e_tk0, e_tk, e_tup2, e_tup1, e_tup, e_lst2, e_lst1, e_lst, e_da1, e_da0, e_da, e_cb2, e_cb1, e_cb, e_v_d, e_v_o, e_v_b, e_v, e_c, e_h_d, e_h_f, e_h_s, e_h_b, e_at1, e_at, e_lm, e_d_d, e_d_f, e_d_s, e_d_b, e_ts, e_t_d, e_t_f, e_t_s, e_p_d, e_p_l, e_p_t, e_put_d, e_put_f, e_put_b, e_bx1, e_bx, e_ap2, e_ap1, e_ap0, e_apS, e_ap, e_arg2, e_arg1, e_arg0, e_arg_b, e_arg_d, e_arg_s, e_cl3, e_cl2, e_cl1, e_cl, e_rv_d, e_rv_o, e_rv_b, e_df2, e_df_r, e_df_n, e_df, e_om, e_r_d, e_r_f, e_r_s, e_r_b, e_ff_n, e_ff_c, e_ff_b, e_ff_r, e_fg, e_fr1, e_fr, e_nm, e_im, e_it2, e_it1, e_it, e_i_l, e_i_t, e_lc3, e_lc1, e_lc, e_io1, e_io, e_iv2, e_iv_d, e_iv_o, e_iv, e_ch6, e_ch5, e_ch4t, e_ch4f, e_ch3, e_ch2, e_ch1, e_ch, e_so_d, e_so_f, e_pr3, e_pr2, e_pr1, e_pr, e_sl4, e_sl3, e_sl2, e_sl1, e_sl, e_nop, e_pt1, e_pt, o_sl_l, o_sl_t, e_yes, e_wp, e_wp0, e_wp1, e_re0, e_re1, e_kd_d, e_kd_o, e_kd_b, e_kd_n, o_add_i, o_add_s, o_add_l, o_add_t, o_sub, o_mul, o_div, o_mod, o_pow, o_lt_i, o_lt_s, o_le_i, o_le_s, o_gt_i, o_ge_i, o_ix_l, o_ix_t, o_ixK, o_len_l, o_len_t, o_len_s, o_int_i, o_int_b, o_abs, o_max, o_min, o_lst_l, o_lst_t, o_tup_l, o_tup_t, List.map_cons, List.map_nil, List.append_nil, List.nil_append, List.cons_append, List.length_cons, List.length_nil, List.getElem?_cons_zero, List.getElem?_cons_succ, List.set_cons_zero, List.set_cons_succ, if_true, if_false, List.replicate_zero, List.replicate_succ, List.length_set, Bool.not_true, Bool.not_false, decide_true, decide_false, true_and, and_true, Nat.reduceAdd, Nat.reduceLT, Nat.reduceLeDiff, reduceIte, reduceCtorEq, p1, items_lot, k1, s1, r1, r1', ne_same]
  simp only [e_op4, e_op3, e_op2, e_op1, e_op, e_un2, e_un1, e_un, e_seq_nx, e_seq_rt, e_seq_bk, e_seq_ct, e_seq, e_nx, e_bk, e_ct, e_put, e_set1, e_set, e_drop1, e_drop, e_ret1, e_ret, e_retN, e_if_t, e_if_f, e_ifS, e_ifE, e_test1, e_test, e_not1, e_not, e_and_t, e_and_f, e_and, e_or_t, e_or_f, e_or, e_andV_t, e_andV_f, e_andV, e_orV_t, e_orV_f, e_orV, e_notV1, e_notV, e_nil, e_cons2, e_cons1, e_cons, e_tk2, e_tk1, e_tk0, e_tk, e_tup2, e_tup1, e_tup, e_lst2, e_lst1, e_lst, e_da1, e_da0, e_da, e_cb2, e_cb1, e_cb, e_v_d, e_v_o, e_v_b, e_v, e_c, e_h_d, e_h_f, e_h_s, e_h_b, e_at1, e_at, e_lm, e_d_d, e_d_f, e_d_s, e_d_b, e_ts, e_t_d, e_t_f, e_t_s, e_p_d, e_p_l, e_p_t, e_put_d, e_put_f, e_put_b, e_bx1, e_bx, e_ap2, e_ap1, e_ap0, e_apS, e_ap, e_arg2, e_arg1, e_arg0, e_arg_b, e_arg_d, e_arg_s, e_cl3, e_cl2, e_cl1, e_cl, e_rv_d, e_rv_o, e_rv_b, e_df2, e_df_r, e_df_n, e_df, e_om, e_r_d, e_r_f, e_r_s, e_r_b, e_ff_n, e_ff_c, e_ff_b, e_ff_r, e_fg, e_fr1, e_fr, e_nm, e_im, e_it2, e_it1, e_it, e_i_l, e_i_t, e_lc3, e_lc1, e_lc, e_io1, e_io, e_iv2, e_iv_d, e_iv_o, e_iv, e_ch6, e_ch5, e_ch4t, e_ch4f, e_ch3, e_ch2, e_ch1, e_ch, e_so_d, e_so_f, e_pr3, e_pr2, e_pr1, e_pr, e_sl4, e_sl3, e_sl2, e_sl1, e_sl, e_nop, e_pt1, e_pt, o_sl_l, o_sl_t, e_yes, e_wp, e_wp0, e_wp1, e_re0, e_re1, e_kd_d, e_kd_o, e_kd_b, e_kd_n, o_add_i, o_add_s, o_add_l, o_add_t, o_sub, o_mul, o_div, o_mod, o_pow, o_lt_i, o_lt_s, o_le_i, o_le_s, o_gt_i, o_ge_i, o_ix_l, o_ix_t, o_ixK, o_len_l, o_len_t, o_len_s, o_int_i, o_int_b, o_abs, o_max, o_min, o_lst_l, o_lst_t, o_tup_l, o_tup_t, List.map_cons, List.map_nil, List.append_nil, List.nil_append, List.cons_append, List.length_cons, List.length_nil, List.getElem?_cons_zero, List.getElem?_cons_succ, List.set_cons_zero, List.set_cons_succ, if_true, if_false, List.replicate_zero, List.replicate_succ, List.length_set, Bool.not_true, Bool.not_false, decide_true, decide_false, true_and, and_true, Nat.reduceAdd, Nat.reduceLT, Nat.reduceLeDiff, reduceIte, reduceCtorEq, p3, items_lot, k2, s2, r3, r3', ne_same]
  simp only [e_op4, e_op3, e_op2, e_op1, e_op, e_un2, e_un1, e_un, e_seq_nx, e_seq_rt, e_seq_bk, e_seq_ct, e_seq, e_nx, e_bk, e_ct, e_put, e_set1, e_set, e_drop1, e_drop, e_ret1, e_ret, e_retN, e_if_t, e_if_f, e_ifS, e_ifE, e_test1, e_test, e_not1, e_not, e_and_t, e_and_f, e_and, e_or_t, e_or_f, e_or, e_andV_t, e_andV_f, e_andV, e_orV_t, e_orV_f, e_orV, e_notV1, e_notV, e_nil, e_cons2, e_cons1, e_cons, e_tk2, e_tk1, e_tk0, e_tk, e_tup2, e_tup1, e_tup, e_lst2, e_lst1, e_lst, e_da1, e_da0, e_da, e_cb2, e_cb1, e_cb, e_v_d, e_v_o, e_v_b, e_v, e_c, e_h_d, e_h_f, e_h_s, e_h_b, e_at1, e_at, e_lm, e_d_d, e_d_f, e_d_s, e_d_b, e_ts, e_t_d, e_t_f, e_t_s, e_p_d, e_p_l, e_p_t, e_put_d, e_put_f, e_put_b, e_bx1, e_bx, e_ap2, e_ap1, e_ap0, e_apS, e_ap, e_arg2, e_arg1, e_arg0, e_arg_b, e_arg_d, e_arg_s, e_cl3, e_cl2, e_cl1, e_cl, e_rv_d, e_rv_o, e_rv_b, e_df2, e_df_r, e_df_n, e_df, e_om, e_r_d, e_r_f, e_r_s, e_r_b, e_ff_n, e_ff_c, e_ff_b, e_ff_r, e_fg, e_fr1, e_fr, e_nm, e_im, e_it2, e_it1, e_it, e_i_l, e_i_t, e_lc3, e_lc1, e_lc, e_io1, e_io, e_iv2, e_iv_d, e_iv_o, e_iv, e_ch6, e_ch5, e_ch4t, e_ch4f, e_ch3, e_ch2, e_ch1, e_ch, e_so_d, e_so_f, e_pr3, e_pr2, e_pr1, e_pr, e_sl4, e_sl3, e_sl2, e_sl1, e_sl, e_nop, e_pt1, e_pt, o_sl_l, o_sl_t, e_yes, e_wp, e_wp0, e_wp1, e_re0, e_re1, e_kd_d, e_kd_o, e_kd_b, e_kd_n, o_add_i, o_add_s, o_add_l, o_add_t, o_sub, o_mul, o_div, o_mod, o_pow, o_lt_i, o_lt_s, o_le_i, o_le_s, o_gt_i, o_ge_i, o_ix_l, o_ix_t, o_ixK, o_len_l, o_len_t, o_len_s, o_int_i, o_int_b, o_abs, o_max, o_min, o_lst_l, o_lst_t, o_tup_l, o_tup_t, List.map_cons, List.map_nil, List.append_nil, List.nil_append, List.cons_append, List.length_cons, List.length_nil, List.getElem?_cons_zero, List.getElem?_cons_succ, List.set_cons_zero, List.set_cons_succ, if_true, if_false, List.replicate_zero, List.replicate_succ, List.length_set, Bool.not_true, Bool.not_false, decide_true, decide_false, true_and, and_true, Nat.reduceAdd, Nat.reduceLT, Nat.reduceLeDiff, reduceIte, reduceCtorEq, cut_7, p4', p5, tup_lots, r4, eq_same]
end XN

set_option maxRecDepth 100000
set_option maxHeartbeats 4000000
/-! values that are no names -/
namespace XN
open PySem PySem.Spec PyProof.Rows PySem.W L2 Evl XD

/-- no name, and such that it can be asked -/
def BadN (x : PyData) : Prop := nameD x = false ∧ Clean x
theorem str_app_len (a c : Str) : (a ++ c).length = a.length + c.length := by
  show (Array.append a.cps c.cps).size = a.cps.size + c.cps.size
  exact Array.size_append
theorem str_app_list (a c : Str) : (a ++ c).cps.toList = a.cps.toList ++ c.cps.toList := by
  show (Array.append a.cps c.cps).toList = _
  exact Array.toList_append
theorem bad_sign {a s c : Str} (hs : s.cps.toList.all letB = false) (h : (a ++ s ++ c).length ≤ 100000) : BadN (.str (a ++ s ++ c)) := by
  refine ⟨?_, nofun, fun z e => by rw [← PyData.str.inj e]; exact h⟩
  show (_ && (a ++ s ++ c).cps.toList.all letB) = false
  rw [str_app_list, str_app_list, List.all_append, List.all_append, hs, Bool.and_false, Bool.false_and, Bool.and_false]
theorem sl_str_op {z : Str} (h : z.length ≤ 100000) (lo hi : Option Int) : opSl (.str z) lo hi = some (.d (.str (cutS z lo hi))) := by
  show (if z.length ≤ 100000 then some (PV.d (.str (cutS z lo hi))) else none) = _
  rw [if_pos h]
theorem add_str {a c : Str} (h : a.length + c.length ≤ 100000) : opAdd (.str a) (.str c) = some (.d (.str (a ++ c))) := by
  show (if a.length + c.length ≤ 100000 then some (PV.d (.str (a ++ c))) else none) = _
  rw [if_pos h]
abbrev six : List Str := ["A", "1", " ", "_", "\n", "-"]
theorem six_bad : ∀ s ∈ six, s.cps.toList.all letB = false ∧ s.length = 1 := by decide +kernel
def mixD (z : Str) (k : Int) : PyData → PyData
  | .str s => .str (cutS z none (some k) ++ s ++ cutS z (some (k + 1)) none)
  | x => x
theorem no_names_is {z : Str} {b : List Int} (hb : Bx b) (hz : nameL z = true) : ∃ xs b', f__law_no_names [.bx, .d (.str z)] b = some (.own xs, b') ∧ Bx b' ∧ (∀ x ∈ xs, BadN x) ∧ xs.length < 100 := by
  have hz' := hz
  unfold nameL at hz'
  rw [Bool.and_eq_true] at hz'
  have hl := of_decide_eq_true hz'.1
  obtain ⟨k, b1, e1, k0, k1, hb1⟩ := take_is (n := (z.length : Nat)) hb (by omega) (by omega)
  have zl : z.length ≤ 100000 := by omega
  have c1 : (cutS z none (some k)).length ≤ 5 := Nat.le_trans (cutS_length ..) hl.2
  have c2 : (cutS z (some (k + 1)) none).length ≤ 5 := Nat.le_trans (cutS_length ..) hl.2
  have key := lc_map (vs := [4]) (on := none) (all := strsD six) (i := 4) (c := dYes) (f := dOp opAdd (dOp opAdd (dSl (dV 1) dNoP (dPart (dV 2))) (dV 4)) (dSl (dV 1) (dPart (dOp opAdd (dV 2) (dC (.int 1)))) dNoP))
    (e := [some .bx, some (.d (.str z)), some (.d (.int k)), none, none]) (b := b1) (fun _ => true) (mixD z k) chk_none (by show 4 < 5; decide) (fun x => rfl) (strsD six) (fun x _ => rfl) fun x hx _ => by
      obtain ⟨s, hs, rfl⟩ := mem_strsD hx
      have ls := (six_bad s hs).2
      have a1 := add_str (a := cutS z none (some k)) (c := s) (by omega)
      have a2 := add_str (a := cutS z none (some k) ++ s) (c := cutS z (some (k + 1)) none) (by rw [str_app_len]; omega)
      refine ⟨.d (.str (cutS z none (some k) ++ s ++ cutS z (some (k + 1)) none)), ?_, rfl⟩
      simp only [e_op4, e_op3, e_op2, e_op1, e_op, e_un2, e_un1, e_un, e_seq_nx, e_seq_rt, e_seq_bk, e_seq_ct, e_seq, e_nx, e_bk, e_ct, e_put, e_set1, e_set, e_drop1, e_drop, e_ret1, e_ret, e_retN, e_if_t, e_if_f, e_ifS, e_ifE, e_test1, e_test, e_not1, e_not, e_and_t, e_and_f, e_and, e_or_t, e_or_f, e_or, e_andV_t, e_andV_f, e_andV, e_orV_t, e_orV_f, e_orV, e_notV1, e_notV, e_nil, e_cons2, e_cons1, e_cons, e_tk2, e_tk1, e_tk0, e_tk, e_tup2, e_tup1, e_tup, e_lst2, e_lst1, e_lst, e_da1, e_da0, e_da, e_cb2, e_cb1, e_cb, e_v_d, e_v_o, e_v_b, e_v, e_c, e_h_d, e_h_f, e_h_s, e_h_b, e_at1, e_at, e_lm, e_d_d, e_d_f, e_d_s, e_d_b, e_ts, e_t_d, e_t_f, e_t_s, e_p_d, e_p_l, e_p_t, e_put_d, e_put_f, e_put_b, e_bx1, e_bx, e_ap2, e_ap1, e_ap0, e_apS, e_ap, e_arg2, e_arg1, e_arg0, e_arg_b, e_arg_d, e_arg_s, e_cl3, e_cl2, e_cl1, e_cl, e_rv_d, e_rv_o, e_rv_b, e_df2, e_df_r, e_df_n, e_df, e_om, e_r_d, e_r_f, e_r_s, e_r_b, e_ff_n, e_ff_c, e_ff_b, e_ff_r, e_fg, e_fr1, e_fr, e_nm, e_im, e_it2, e_it1, e_it, e_i_l, e_i_t, e_lc3, e_lc1, e_lc, e_io1, e_io, e_iv2, e_iv_d, e_iv_o, e_iv, e_ch6, e_ch5, e_ch4t, e_ch4f, e_ch3, e_ch2, e_ch1, e_ch, e_so_d, e_so_f, e_pr3, e_pr2, e_pr1, e_pr, e_sl4, e_sl3, e_sl2, e_sl1, e_sl, e_nop, e_pt1, e_pt, o_sl_l, o_sl_t, e_yes, e_wp, e_wp0, e_wp1, e_re0, e_re1, e_kd_d, e_kd_o, e_kd_b, e_kd_n, o_add_i, o_add_s, o_add_l, o_add_t, o_sub, o_mul, o_div, o_mod, o_pow, o_lt_i, o_lt_s, o_le_i, o_le_s, o_gt_i, o_ge_i, o_ix_l, o_ix_t, o_ixK, o_len_l, o_len_t, o_len_s, o_int_i, o_int_b, o_abs, o_max, o_min, o_lst_l, o_lst_t, o_tup_l, o_tup_t, List.map_cons, List.map_nil, List.append_nil, List.nil_append, List.cons_append, List.length_cons, List.length_nil, List.getElem?_cons_zero, List.getElem?_cons_succ, List.set_cons_zero, List.set_cons_succ, if_true, if_false, List.replicate_zero, List.replicate_succ, List.length_set, Bool.not_true, Bool.not_false, decide_true, decide_false, true_and, and_true, Nat.reduceAdd, Nat.reduceLT, Nat.reduceLeDiff, reduceIte, reduceCtorEq, sl_str_op zl, a1, a2]
  rw [filter_yes] at key
  have bad1 : ∀ x ∈ (strsD six).map (mixD z k), BadN x := fun x hx => by
    obtain ⟨y, hy, rfl⟩ := List.mem_map.mp hx
    obtain ⟨s, hs, rfl⟩ := mem_strsD hy
    have ls := six_bad s hs
    exact bad_sign ls.1 (by rw [str_app_len, str_app_len]; omega)
  generalize hS : (strsD six).map (mixD z k) = S at key bad1
  have lS : S.length = 6 := by
    rw [← hS, List.length_map]
    rfl
  have sz : S.length < 100000 := by omega
  have six_ : strsD six = [.str "A", .str "1", .str " ", .str "_", .str "\n", .str "-"] := rfl
  rw [six_] at key
  have l6 : ([.str "A", .str "1", .str " ", .str "_", .str "\n", .str "-"] : List PyData).length ≤ 100000 := by show 6 ≤ 100000; decide
  have g0 : add_str (a := z) (c := "abcdef") (by show z.length + 6 ≤ 100000; omega) = add_str (a := z) (c := "abcdef") (by show z.length + 6 ≤ 100000; omega) := rfl
  have a3 := add_str (a := z) (c := "abcdef") (by show z.length + 6 ≤ 100000; omega)
  have l7 : (z ++ ("abcdef" : Str)).length = z.length + 6 := str_app_len z "abcdef"
  have s7 := sl_str_op (z := z ++ ("abcdef" : Str)) (by omega) none (some 6)
  have cut6 : (cutS (z ++ ("abcdef" : Str)) none (some 6)).length = 6 := by
    show (List.toArray _).size = 6
    rw [List.size_toArray, HT.sIx_none, List.drop_zero, Nat.sub_zero, List.length_take, Array.length_toList]
    have : HT.sIx (z ++ ("abcdef" : Str)).length (z ++ ("abcdef" : Str)).length (some 6) = min 6 (z ++ ("abcdef" : Str)).length := HT.sIx_nat _ _ 6
    rw [this]
    show min (min 6 _) (z ++ ("abcdef" : Str)).length = 6
    omega
  have t1 : ∀ x : PyData, [x].length ≤ 100000 := fun _ => by show 1 ≤ 100000; decide
  have t7 : ∀ x1 x2 x3 x4 x5 x6 x7 : PyData, [x1, x2, x3, x4, x5, x6, x7].length ≤ 100000 := fun _ _ _ _ _ _ _ => by show 7 ≤ 100000; decide
  have ad : ∀ T : List PyData, T.length = 7 → opAdd (.list S) (.list T) = some (.l (S ++ T)) := fun T hT => by
    show (if S.length + T.length ≤ 100000 then some (PV.l (S ++ T)) else none) = _
    rw [if_pos (by omega)]
  have ad7 := ad [.str "", .str (cutS (z ++ ("abcdef" : Str)) none (some 6)), .int 7, .none, .bool true, .tuple [.str z], .list [.str z]] rfl
  refine ⟨S ++ [.str "", .str (cutS (z ++ ("abcdef" : Str)) none (some 6)), .int 7, .none, .bool true, .tuple [.str z], .list [.str z]], b1, ?_, hb1, fun x hx => ?_, by rw [List.length_append, lS]; exact (by decide : 6 + 7 < 100)⟩
  · unfold f__law_no_names g__law_no_names
    simp only [e_op4, e_op3, e_op2, e_op1, e_op, e_un2, e_un1, e_un, e_seq_nx, e_seq_rt, e_seq_bk, e_seq_ct, e_seq, e_nx, e_bk, e_ct, e_put, e_set1, e_set, e_drop1, e_drop, e_ret1, e_ret, e_retN, e_if_t, e_if_f, e_ifS, e_ifE, e_test1, e_test, e_not1, e_not, e_and_t, e_and_f, e_and, e_or_t, e_or_f, e_or, e_andV_t, e_andV_f, e_andV, e_orV_t, e_orV_f, e_orV, e_notV1, e_notV, e_nil, e_cons2, e_cons1, e_cons, e_tk2, e_tk1, e_tk0, e_tk, e_tup2, e_tup1, e_tup, e_lst2, e_lst1, e_lst, e_da1, e_da0, e_da, e_cb2, e_cb1, e_cb, e_v_d, e_v_o, e_v_b, e_v, e_c, e_h_d, e_h_f, e_h_s, e_h_b, e_at1, e_at, e_lm, e_d_d, e_d_f, e_d_s, e_d_b, e_ts, e_t_d, e_t_f, e_t_s, e_p_d, e_p_l, e_p_t, e_put_d, e_put_f, e_put_b, e_bx1, e_bx, e_ap2, e_ap1, e_ap0, e_apS, e_ap, e_arg2, e_arg1, e_arg0, e_arg_b, e_arg_d, e_arg_s, e_cl3, e_cl2, e_cl1, e_cl, e_rv_d, e_rv_o, e_rv_b, e_df2, e_df_r, e_df_n, e_df, e_om, e_r_d, e_r_f, e_r_s, e_r_b, e_ff_n, e_ff_c, e_ff_b, e_ff_r, e_fg, e_fr1, e_fr, e_nm, e_im, e_it2, e_it1, e_it, e_i_l, e_i_t, e_lc3, e_lc1, e_lc, e_io1, e_io, e_iv2, e_iv_d, e_iv_o, e_iv, e_ch6, e_ch5, e_ch4t, e_ch4f, e_ch3, e_ch2, e_ch1, e_ch, e_so_d, e_so_f, e_pr3, e_pr2, e_pr1, e_pr, e_sl4, e_sl3, e_sl2, e_sl1, e_sl, e_nop, e_pt1, e_pt, o_sl_l, o_sl_t, e_yes, e_wp, e_wp0, e_wp1, e_re0, e_re1, e_kd_d, e_kd_o, e_kd_b, e_kd_n, o_add_i, o_add_s, o_add_l, o_add_t, o_sub, o_mul, o_div, o_mod, o_pow, o_lt_i, o_lt_s, o_le_i, o_le_s, o_gt_i, o_ge_i, o_ix_l, o_ix_t, o_ixK, o_len_l, o_len_t, o_len_s, o_int_i, o_int_b, o_abs, o_max, o_min, o_lst_l, o_lst_t, o_tup_l, o_tup_t, List.map_cons, List.map_nil, List.append_nil, List.nil_append, List.cons_append, List.length_cons, List.length_nil, List.getElem?_cons_zero, List.getElem?_cons_succ, List.set_cons_zero, List.set_cons_succ, if_true, if_false, List.replicate_zero, List.replicate_succ, List.length_set, Bool.not_true, Bool.not_false, decide_true, decide_false, true_and, and_true, Nat.reduceAdd, Nat.reduceLT, Nat.reduceLeDiff, reduceIte, reduceCtorEq, zl, e1, l6, key, sz, a3, s7, t1, t7, ad7]
  · rcases List.mem_append.mp hx with hx | hx
    · exact bad1 x hx
    · simp only [List.mem_cons, List.not_mem_nil, or_false] at hx
      rcases hx with rfl | rfl | rfl | rfl | rfl | rfl | rfl
      · exact ⟨rfl, nofun, fun y e => by rw [← PyData.str.inj e]; exact Nat.zero_le _⟩
      · refine ⟨?_, nofun, fun y e => by rw [← PyData.str.inj e, cut6]; decide⟩
        show (decide (1 ≤ _ ∧ _ ≤ 5) && _) = false
        rw [cut6, decide_eq_false (by omega), Bool.false_and]
      · exact ⟨rfl, nofun, nofun⟩
      · exact ⟨rfl, nofun, nofun⟩
      · exact ⟨rfl, nofun, nofun⟩
      · exact ⟨rfl, nofun, nofun⟩
      · exact ⟨rfl, nofun, nofun⟩
end XN

set_option maxRecDepth 100000
set_option maxHeartbeats 4000000
/-! the order of names and < of texts; rows of names that are no lots -/
namespace XN
open PySem PySem.Spec PyProof.Rows PySem.W L2 Evl XD

theorem sLe_lt (a c : Str) : sLe a c = !ltS c a := by
  have e : sLe a c = !(PyProof.Rows.lexLt itemOrd (keyToks (.str c)) (keyToks (.str a))) := rfl
  rw [e, show keyToks (.str c) = [.inr c.cps.toList] from by simp [keyToks], show keyToks (.str a) = [.inr a.cps.toList] from by simp [keyToks], PySem.W.lex_one]
  rfl
theorem lt_of_le {a c : Str} (h : sLe a c = true) : ltS c a = false := by
  rw [sLe_lt] at h
  cases q : ltS c a with
  | false => rfl
  | true =>
    rw [q] at h
    cases h
theorem lt_strict {a c : Str} (h : sLe a c = true) (n : a ≠ c) : ltS a c = true := by
  cases q : ltS a c with
  | true => rfl
  | false =>
    have : sLe c a = true := by rw [sLe_lt, q]; rfl
    exact absurd (sLe_anti h this) n
theorem lt_same (a : Str) : ltS a a = false := by
  have h : sLe a a = true := by simpa using sLe_total.total a a
  exact lt_of_le h
theorem asc_bad : ∀ (p : List Str) {a c : Str} {r : List Str}, ltS a c = false → ascB (p ++ a :: c :: r) = false
  | [], a, c, r, h => by
    show (ltS a c && _) = false
    rw [h, Bool.false_and]
  | [x], a, c, r, h => by
    show (ltS x a && ascB (a :: c :: r)) = false
    have := asc_bad [] (r := r) h
    rw [show ascB (a :: c :: r) = false from this, Bool.and_false]
  | x :: y :: p, a, c, r, h => by
    show (ltS x y && ascB (y :: p ++ a :: c :: r)) = false
    rw [asc_bad (y :: p) h, Bool.and_false]
theorem asc_ord : ∀ {l : List Str}, Ord l → ascB l = true
  | [], _ => rfl
  | [_], _ => rfl
  | a :: c :: r, h => by
    have h1 := List.pairwise_cons.mp h.so
    have h2 := List.nodup_cons.mp h.nd
    show (ltS a c && ascB (c :: r)) = true
    rw [lt_strict (h1.1 c (List.mem_cons_self ..)) fun e => h2.1 (by rw [e]; exact List.mem_cons_self ..), asc_ord ⟨h2.2, h1.2⟩]
    rfl
theorem lot_yes {l : List Str} (h : Ord l) (hn : ∀ z ∈ l, nameL z = true) : lotB (lotD l) = true := by
  have e : strsAll (strsD l) = l := strsOf_lot l
  show ((strsD l).all nameD && ascB (strsAll (strsD l))) = true
  rw [e, asc_ord h, Bool.and_true]
  exact List.all_eq_true.mpr fun x hx => by
    obtain ⟨z, hz, rfl⟩ := mem_strsD hx
    exact hn z hz
def BadL (x : PyData) : Prop := lotB x = false ∧ (∀ ys, x ≠ .dict ys) ∧ ∀ xs, x = .tuple xs → xs.length < 100000 ∧ ∀ y ∈ xs, Clean y
theorem clean_name {z : Str} (h : nameL z = true) : Clean (.str z) := by
  unfold nameL at h
  rw [Bool.and_eq_true] at h
  have := of_decide_eq_true h.1
  exact ⟨nofun, fun y e => by rw [← PyData.str.inj e]; omega⟩
theorem cut_strs (l : List Str) (lo hi : Option Int) : ∃ m : List Str, cutD (strsD l) lo hi = strsD m ∧ (∀ z ∈ m, z ∈ l) ∧ m.length ≤ l.length := by
  refine ⟨(l.drop (HT.sIx l.length 0 lo)).take (HT.sIx l.length l.length hi - HT.sIx l.length 0 lo), ?_, fun z m => List.mem_of_mem_drop (List.mem_of_mem_take m), ?_⟩
  · unfold cutD strsD
    rw [List.length_map, List.map_take, List.map_drop]
  · rw [List.length_take, List.length_drop]
    omega
/-- a thing that is no name, put among names -/
theorem bad_mid {l : List Str} {x : PyData} (hn : ∀ z ∈ l, nameL z = true) (few : l.length ≤ 1000) (hx : nameD x = false) (cx : Clean x) (lo hi lo' hi' : Option Int) : BadL (.tuple (cutD (strsD l) lo hi ++ [x] ++ cutD (strsD l) lo' hi')) := by
  obtain ⟨m1, e1, h1, s1⟩ := cut_strs l lo hi
  obtain ⟨m2, e2, h2, s2⟩ := cut_strs l lo' hi'
  rw [e1, e2]
  refine ⟨?_, nofun, fun xs e => ?_⟩
  · show ((strsD m1 ++ [x] ++ strsD m2).all nameD && _) = false
    rw [List.all_append, List.all_append, List.all_cons, hx]
    simp
  · rw [← PyData.tuple.inj e]
    refine ⟨?_, fun y hy => ?_⟩
    · rw [List.length_append, List.length_append]
      show (m1.map PyData.str).length + 1 + (m2.map PyData.str).length < 100000
      rw [List.length_map, List.length_map]
      omega
    · rcases List.mem_append.mp hy with hy | hy
      · rcases List.mem_append.mp hy with hy | hy
        · obtain ⟨z, hz, rfl⟩ := mem_strsD hy
          exact clean_name (hn z (h1 z hz))
        · rw [List.mem_singleton.mp hy]
          exact cx
      · obtain ⟨z, hz, rfl⟩ := mem_strsD hy
        exact clean_name (hn z (h2 z hz))
/-- names that do not go up -/
theorem bad_names {l : List Str} (hn : ∀ z ∈ l, nameL z = true) (few : l.length ≤ 100) (h : ascB l = false) : BadL (.tuple (strsD l)) := by
  have e : strsAll (strsD l) = l := strsOf_lot l
  refine ⟨?_, nofun, fun xs e => ?_⟩
  · show (_ && ascB (strsAll (strsD l))) = false
    rw [e, h, Bool.and_false]
  · rw [← PyData.tuple.inj e]
    refine ⟨few_strs (Nat.lt_of_le_of_lt few (by decide)), fun y hy => ?_⟩
    obtain ⟨z, hz, rfl⟩ := mem_strsD hy
    exact clean_name (hn z hz)
end XN

set_option maxRecDepth 100000
set_option maxHeartbeats 4000000
/-! values that are no lots -/
namespace XN
open PySem PySem.Spec PyProof.Rows PySem.W L2 Evl XD

theorem cut_len {xs : List PyData} {lo hi : Option Int} : (cutD xs lo hi).length ≤ xs.length := by
  unfold cutD
  rw [List.length_take, List.length_drop]
  omega
theorem cut_head {l : List Str} {k : Nat} (h : k ≤ l.length) : cutD (strsD l) none (some (k : Int)) = strsD (l.take k) := by
  have e : (strsD l).length = l.length := List.length_map _
  have h0 : HT.sIx (strsD l).length 0 none = 0 := HT.sIx_none ..
  have h7 : HT.sIx (strsD l).length (strsD l).length (some (k : Int)) = k := by
    rw [e]
    exact (HT.sIx_nat l.length l.length k).trans (Nat.min_eq_left h)
  unfold cutD
  rw [h0, h7, List.drop_zero, Nat.sub_zero]
  show (l.map PyData.str).take k = (l.take k).map PyData.str
  rw [List.map_take]
theorem cut_tail {l : List Str} {k : Nat} (h : k ≤ l.length) : cutD (strsD l) (some (k : Int)) none = strsD (l.drop k) := by
  have e : (strsD l).length = l.length := List.length_map _
  have h0 : HT.sIx (strsD l).length (strsD l).length none = l.length := by rw [HT.sIx_none, e]
  have h7 : HT.sIx (strsD l).length 0 (some (k : Int)) = k := by
    rw [e]
    exact (HT.sIx_nat l.length 0 k).trans (Nat.min_eq_left h)
  unfold cutD
  rw [h0, h7]
  show ((l.map PyData.str).drop k).take _ = (l.drop k).map PyData.str
  rw [← List.map_drop, List.take_of_length_le (by rw [List.length_map, List.length_drop]; exact Nat.le_refl _)]
theorem sl_lot (l : List Str) (a c : Option Int) : opSl (lotD l) a c = some (.t (cutD (strsD l) a c)) := rfl
theorem ix_lot (l : List Str) (i : Int) : opIx (lotD l) (.int i) = ixK (atI (strsD l) i) := rfl
theorem add_tt {xs ys : List PyData} (h : xs.length + ys.length ≤ 100000) : opAdd (.tuple xs) (.tuple ys) = some (.t (xs ++ ys)) := by
  show (if xs.length + ys.length ≤ 100000 then some (PV.t (xs ++ ys)) else none) = _
  rw [if_pos h]
theorem dup_bad {l : List Str} {k : Nat} (hn : ∀ z ∈ l, nameL z = true) (few : l.length ≤ 50) (hk : k < l.length) : BadL (.tuple (cutD (strsD l) none (some (k : Int)) ++ [.str l[k]] ++ cutD (strsD l) (some (k : Int)) none)) := by
  rw [cut_head (Nat.le_of_lt hk), cut_tail (Nat.le_of_lt hk)]
  have e : strsD (l.take k) ++ [PyData.str l[k]] ++ strsD (l.drop k) = strsD (l.take k ++ l[k] :: l[k] :: l.drop (k + 1)) := by
    rw [List.drop_eq_getElem_cons hk]
    show (l.take k).map PyData.str ++ [PyData.str l[k]] ++ (l[k] :: l.drop (k + 1)).map PyData.str = (l.take k ++ l[k] :: l[k] :: l.drop (k + 1)).map PyData.str
    rw [List.map_append, List.append_assoc]
    rfl
  rw [e]
  refine bad_names (fun z m => ?_) ?_ (asc_bad _ (lt_same _))
  · rcases List.mem_append.mp m with m | m
    · exact hn z (List.mem_of_mem_take m)
    · rcases List.mem_cons.mp m with m | m
      · rw [m]; exact hn _ (List.getElem_mem hk)
      · rcases List.mem_cons.mp m with m | m
        · rw [m]; exact hn _ (List.getElem_mem hk)
        · exact hn z (List.mem_of_mem_drop m)
  · rw [List.length_append, List.length_take, List.length_cons, List.length_cons, List.length_drop]
    omega
theorem swap_bad {l : List Str} {k : Nat} (hn : ∀ z ∈ l, nameL z = true) (od : Ord l) (few : l.length ≤ 50) (hk : k + 1 < l.length) : BadL (.tuple (cutD (strsD l) none (some (k : Int)) ++ [.str l[k + 1], .str (l[k]'(by omega))] ++ cutD (strsD l) (some ((k : Int) + 2)) none)) := by
  have h2 : ((k : Int) + 2) = ((k + 2 : Nat) : Int) := by omega
  rw [h2, cut_head (by omega), cut_tail (by omega)]
  have e : strsD (l.take k) ++ [PyData.str l[k + 1], .str (l[k]'(by omega))] ++ strsD (l.drop (k + 2)) = strsD (l.take k ++ l[k + 1] :: (l[k]'(by omega)) :: l.drop (k + 2)) := by
    show (l.take k).map PyData.str ++ [PyData.str l[k + 1], .str (l[k]'(by omega))] ++ (l.drop (k + 2)).map PyData.str = (l.take k ++ l[k + 1] :: (l[k]'(by omega)) :: l.drop (k + 2)).map PyData.str
    rw [List.map_append, List.append_assoc]
    rfl
  rw [e]
  have le : sLe (l[k]'(by omega)) l[k + 1] = true := List.pairwise_iff_getElem.mp od.so k (k + 1) (by omega) hk (Nat.lt_succ_self k)
  refine bad_names (fun z m => ?_) ?_ (asc_bad _ (lt_of_le le))
  · rcases List.mem_append.mp m with m | m
    · exact hn z (List.mem_of_mem_take m)
    · rcases List.mem_cons.mp m with m | m
      · rw [m]; exact hn _ (List.getElem_mem hk)
      · rcases List.mem_cons.mp m with m | m
        · rw [m]; exact hn _ (List.getElem_mem (by omega))
        · exact hn z (List.mem_of_mem_drop m)
  · rw [List.length_append, List.length_take, List.length_cons, List.length_cons, List.length_drop]
    omega
end XN

set_option maxRecDepth 100000
set_option maxHeartbeats 4000000
/-! the law's own values that are no lots -/
namespace XN
open PySem PySem.Spec PyProof.Rows PySem.W L2 Evl XD

theorem bad_flat {x : PyData} (h : ∀ xs, x ≠ .tuple xs) (hd : ∀ ys, x ≠ .dict ys) : BadL x := by
  refine ⟨?_, hd, fun xs e => absurd e (h xs)⟩
  cases x with
  | tuple xs => exact absurd rfl (h xs)
  | _ => rfl
theorem no_lots_is {l : List Str} {b : List Int} (hb : Bx b) (hn : ∀ z ∈ l, nameL z = true) (od : Ord l) (few : l.length ≤ 9) : ∃ xs b', f__law_no_lots [.bx, .d (lotD l)] b = some (.own xs, b') ∧ Bx b' ∧ (∀ x ∈ xs, BadL x) ∧ xs.length < 100 := by
  have ln : (strsD l).length = l.length := List.length_map _
  obtain ⟨k, b1, e1, k0, k1, hb1⟩ := take_is (n := ((strsD l).length : Nat) + 1) hb (by omega) (by omega)
  have t1 : ∀ x : PyData, [x].length ≤ 100000 := fun _ => by show 1 ≤ 100000; decide
  have t2 : ∀ x y : PyData, [x, y].length ≤ 100000 := fun _ _ => by show 2 ≤ 100000; decide
  have t7 : ∀ x1 x2 x3 x4 x5 x6 x7 : PyData, [x1, x2, x3, x4, x5, x6, x7].length ≤ 100000 := fun _ _ _ _ _ _ _ => by show 7 ≤ 100000; decide
  have cl : ∀ lo hi, (cutD (strsD l) lo hi).length ≤ 9 := fun lo hi => Nat.le_trans cut_len (by omega)
  have a1 : ∀ (lo hi : Option Int) (ys : List PyData), ys.length ≤ 9 → opAdd (.tuple (cutD (strsD l) lo hi)) (.tuple ys) = some (.t (cutD (strsD l) lo hi ++ ys)) := fun lo hi ys h => add_tt (by have := cl lo hi; omega)
  have a2 : ∀ (lo hi lo' hi' : Option Int) (ys : List PyData), ys.length ≤ 9 → opAdd (.tuple (cutD (strsD l) lo hi ++ ys)) (.tuple (cutD (strsD l) lo' hi')) = some (.t (cutD (strsD l) lo hi ++ ys ++ cutD (strsD l) lo' hi')) := fun lo hi lo' hi' ys h => add_tt (by have := cl lo hi; have := cl lo' hi'; rw [List.length_append]; omega)
  have s1 : ∀ x : PyData, [x].length ≤ 9 := fun _ => by show 1 ≤ 9; decide
  have s2 : ∀ x y : PyData, [x, y].length ≤ 9 := fun _ _ => by show 2 ≤ 9; decide
  have b1 : ∀ x : PyData, opAdd (.tuple (cutD (strsD l) none (some k))) (.tuple [x]) = _ := fun x => a1 none (some k) [x] (s1 x)
  have b2 : ∀ x : PyData, opAdd (.tuple (cutD (strsD l) none (some k) ++ [x])) (.tuple (cutD (strsD l) (some k) none)) = _ := fun x => a2 none (some k) (some k) none [x] (s1 x)
  obtain ⟨BL, hBL⟩ : ∃ BL, BL = [PyData.list (strsD l), .none, .int 3, .str "a", .tuple (cutD (strsD l) none (some k) ++ [.str "A"] ++ cutD (strsD l) (some k) none), .tuple (cutD (strsD l) none (some k) ++ [.int 1] ++ cutD (strsD l) (some k) none), .tuple (cutD (strsD l) none (some k) ++ [.tuple [.str "a"]] ++ cutD (strsD l) (some k) none)] := ⟨_, rfl⟩
  have lB : BL.length = 7 := by rw [hBL]; rfl
  have base : ∀ x ∈ BL, BadL x := by
    intro x hx
    rw [hBL] at hx
    simp only [List.mem_cons, List.not_mem_nil, or_false] at hx
    rcases hx with rfl | rfl | rfl | rfl | rfl | rfl | rfl
    · exact bad_flat (fun _ e => by cases e) (fun _ e => by cases e)
    · exact bad_flat (fun _ e => by cases e) (fun _ e => by cases e)
    · exact bad_flat (fun _ e => by cases e) (fun _ e => by cases e)
    · exact bad_flat (fun _ e => by cases e) (fun _ e => by cases e)
    · exact bad_mid hn (by omega) (by decide +kernel) ⟨(fun _ e => by cases e), (fun z e => by rw [← PyData.str.inj e]; decide)⟩ _ _ _ _
    · exact bad_mid hn (by omega) rfl ⟨(fun _ e => by cases e), (fun _ e => by cases e)⟩ _ _ _ _
    · exact bad_mid hn (by omega) rfl ⟨(fun _ e => by cases e), (fun _ e => by cases e)⟩ _ _ _ _
  by_cases h0 : 0 < l.length
  · have d0 : decide ((0 : Int) < (((strsD l).length : Nat) : Int)) = true := decide_eq_true (by omega)
    obtain ⟨r, b2', e2, r0, r1, hb2⟩ := take_is (n := ((strsD l).length : Nat)) hb1 (by omega) (by omega)
    obtain ⟨j, rfl⟩ : ∃ j : Nat, r = (j : Int) := ⟨r.toNat, by omega⟩
    have hj : j < l.length := by omega
    have ij : atI (strsD l) (j : Int) = some (.str l[j]) := at_nat (strs_get (List.getElem?_eq_getElem hj))
    have c1 := a1 none (some (j : Int)) [.str l[j]] (s1 _)
    have c2 := a2 none (some (j : Int)) (some (j : Int)) none [.str l[j]] (s1 _)
    have bad1 := dup_bad hn (by omega) hj
    have lt7 : ∀ x1 x2 x3 x4 x5 x6 x7 : PyData, [x1, x2, x3, x4, x5, x6, x7].length < 100000 := fun _ _ _ _ _ _ _ => by show 7 < 100000; decide
    by_cases h1 : 1 < l.length
    · have d1 : decide ((1 : Int) < (((strsD l).length : Nat) : Int)) = true := decide_eq_true (by omega)
      obtain ⟨q, b3, e3, q0, q1, hb3⟩ := take_is (n := ((strsD l).length : Nat) - 1) hb2 (by omega) (by omega)
      obtain ⟨i, rfl⟩ : ∃ i : Nat, q = (i : Int) := ⟨q.toNat, by omega⟩
      have hi : i + 1 < l.length := by omega
      have i0 : atI (strsD l) (i : Int) = some (.str (l[i]'(by omega))) := at_nat (strs_get (List.getElem?_eq_getElem (by omega)))
      have i1 : atI (strsD l) ((i : Int) + 1) = some (.str l[i + 1]) := by
        have e : (i : Int) + 1 = ((i + 1 : Nat) : Int) := by omega
        rw [e]
        exact at_nat (strs_get (List.getElem?_eq_getElem hi))
      have f1 := a1 none (some (i : Int)) [.str l[i + 1], .str (l[i]'(by omega))] (s2 _ _)
      have f2 := a2 none (some (i : Int)) (some ((i : Int) + 2)) none [.str l[i + 1], .str (l[i]'(by omega))] (s2 _ _)
      have bad2 := swap_bad hn od (by omega) hi
      have lt8 : ∀ x1 x2 x3 x4 x5 x6 x7 x8 : PyData, [x1, x2, x3, x4, x5, x6, x7, x8].length < 100000 := fun _ _ _ _ _ _ _ _ => by show 8 < 100000; decide
      refine ⟨BL ++ [.tuple (cutD (strsD l) none (some (j : Int)) ++ [.str l[j]] ++ cutD (strsD l) (some (j : Int)) none)] ++ [.tuple (cutD (strsD l) none (some (i : Int)) ++ [.str l[i + 1], .str (l[i]'(by omega))] ++ cutD (strsD l) (some ((i : Int) + 2)) none)], b3, ?_, hb3, fun x hx => ?_, ?_⟩
      · rw [hBL]
        unfold f__law_no_lots g__law_no_lots
        simp only [e_op4, e_op3, e_op2, e_op1, e_op, e_un2, e_un1, e_un, e_seq_nx, e_seq_rt, e_seq_bk, e_seq_ct, e_seq, e_nx, e_bk, e_ct, e_put, e_set1, e_set, e_drop1, e_drop, e_ret1, e_ret, e_retN, e_if_t, e_if_f, e_ifS, e_ifE, e_test1, e_test, e_not1, e_not, e_and_t, e_and_f, e_and, e_or_t, e_or_f, e_or, e_andV_t, e_andV_f, e_andV, e_orV_t, e_orV_f, e_orV, e_notV1, e_notV, e_nil, e_cons2, e_cons1, e_cons, e_tk2, e_tk1, e_tk0, e_tk, e_tup2, e_tup1, e_tup, e_lst2, e_lst1, e_lst, e_da1, e_da0, e_da, e_cb2, e_cb1, e_cb, e_v_d, e_v_o, e_v_b, e_v, e_c, e_h_d, e_h_f, e_h_s, e_h_b, e_at1, e_at, e_lm, e_d_d, e_d_f, e_d_s, e_d_b, e_ts, e_t_d, e_t_f, e_t_s, e_p_d, e_p_l, e_p_t, e_put_d, e_put_f, e_put_b, e_bx1, e_bx, e_ap2, e_ap1, e_ap0, e_apS, e_ap, e_arg2, e_arg1, e_arg0, e_arg_b, e_arg_d, e_arg_s, e_cl3, e_cl2, e_cl1, e_cl, e_rv_d, e_rv_o, e_rv_b, e_df2, e_df_r, e_df_n, e_df, e_om, e_r_d, e_r_f, e_r_s, e_r_b, e_ff_n, e_ff_c, e_ff_b, e_ff_r, e_fg, e_fr1, e_fr, e_nm, e_im, e_it2, e_it1, e_it, e_i_l, e_i_t, e_lc3, e_lc1, e_lc, e_io1, e_io, e_iv2, e_iv_d, e_iv_o, e_iv, e_ch6, e_ch5, e_ch4t, e_ch4f, e_ch3, e_ch2, e_ch1, e_ch, e_so_d, e_so_f, e_pr3, e_pr2, e_pr1, e_pr, e_sl4, e_sl3, e_sl2, e_sl1, e_sl, e_nop, e_pt1, e_pt, o_sl_l, o_sl_t, e_yes, e_wp, e_wp0, e_wp1, e_re0, e_re1, e_kd_d, e_kd_o, e_kd_b, e_kd_n, o_add_i, o_add_s, o_add_l, o_add_t, o_sub, o_mul, o_div, o_mod, o_pow, o_lt_i, o_lt_s, o_le_i, o_le_s, o_gt_i, o_ge_i, o_ix_l, o_ix_t, o_ixK, o_len_l, o_len_t, o_len_s, o_int_i, o_int_b, o_abs, o_max, o_min, o_lst_l, o_lst_t, o_tup_l, o_tup_t, List.map_cons, List.map_nil, List.append_nil, List.nil_append, List.cons_append, List.length_cons, List.length_nil, List.getElem?_cons_zero, List.getElem?_cons_succ, List.set_cons_zero, List.set_cons_succ, if_true, if_false, List.replicate_zero, List.replicate_succ, List.length_set, Bool.not_true, Bool.not_false, decide_true, decide_false, true_and, and_true, Nat.reduceAdd, Nat.reduceLT, Nat.reduceLeDiff, reduceIte, reduceCtorEq, op_list_lot, len_lot, e1, sl_lot, b1, b2, t1, t7, d0, e2, ix_lot, ij, c1, c2, lt7, d1, e3, i0, i1, t2, f1, f2, lt8]
      · rcases List.mem_append.mp hx with hx | hx
        · rcases List.mem_append.mp hx with hx | hx
          · exact base x hx
          · rw [List.mem_singleton.mp hx]; exact bad1
        · rw [List.mem_singleton.mp hx]; exact bad2
      · rw [List.length_append, List.length_append, lB]; exact (by decide : 7 + 1 + 1 < 100)
    · have d1 : decide ((1 : Int) < (((strsD l).length : Nat) : Int)) = false := decide_eq_false (by omega)
      refine ⟨BL ++ [.tuple (cutD (strsD l) none (some (j : Int)) ++ [.str l[j]] ++ cutD (strsD l) (some (j : Int)) none)], b2', ?_, hb2, fun x hx => ?_, ?_⟩
      · rw [hBL]
        unfold f__law_no_lots g__law_no_lots
        simp only [e_op4, e_op3, e_op2, e_op1, e_op, e_un2, e_un1, e_un, e_seq_nx, e_seq_rt, e_seq_bk, e_seq_ct, e_seq, e_nx, e_bk, e_ct, e_put, e_set1, e_set, e_drop1, e_drop, e_ret1, e_ret, e_retN, e_if_t, e_if_f, e_ifS, e_ifE, e_test1, e_test, e_not1, e_not, e_and_t, e_and_f, e_and, e_or_t, e_or_f, e_or, e_andV_t, e_andV_f, e_andV, e_orV_t, e_orV_f, e_orV, e_notV1, e_notV, e_nil, e_cons2, e_cons1, e_cons, e_tk2, e_tk1, e_tk0, e_tk, e_tup2, e_tup1, e_tup, e_lst2, e_lst1, e_lst, e_da1, e_da0, e_da, e_cb2, e_cb1, e_cb, e_v_d, e_v_o, e_v_b, e_v, e_c, e_h_d, e_h_f, e_h_s, e_h_b, e_at1, e_at, e_lm, e_d_d, e_d_f, e_d_s, e_d_b, e_ts, e_t_d, e_t_f, e_t_s, e_p_d, e_p_l, e_p_t, e_put_d, e_put_f, e_put_b, e_bx1, e_bx, e_ap2, e_ap1, e_ap0, e_apS, e_ap, e_arg2, e_arg1, e_arg0, e_arg_b, e_arg_d, e_arg_s, e_cl3, e_cl2, e_cl1, e_cl, e_rv_d, e_rv_o, e_rv_b, e_df2, e_df_r, e_df_n, e_df, e_om, e_r_d, e_r_f, e_r_s, e_r_b, e_ff_n, e_ff_c, e_ff_b, e_ff_r, e_fg, e_fr1, e_fr, e_nm, e_im, e_it2, e_it1, e_it, e_i_l, e_i_t, e_lc3, e_lc1, e_lc, e_io1, e_io, e_iv2, e_iv_d, e_iv_o, e_iv, e_ch6, e_ch5, e_ch4t, e_ch4f, e_ch3, e_ch2, e_ch1, e_ch, e_so_d, e_so_f, e_pr3, e_pr2, e_pr1, e_pr, e_sl4, e_sl3, e_sl2, e_sl1, e_sl, e_nop, e_pt1, e_pt, o_sl_l, o_sl_t, e_yes, e_wp, e_wp0, e_wp1, e_re0, e_re1, e_kd_d, e_kd_o, e_kd_b, e_kd_n, o_add_i, o_add_s, o_add_l, o_add_t, o_sub, o_mul, o_div, o_mod, o_pow, o_lt_i, o_lt_s, o_le_i, o_le_s, o_gt_i, o_ge_i, o_ix_l, o_ix_t, o_ixK, o_len_l, o_len_t, o_len_s, o_int_i, o_int_b, o_abs, o_max, o_min, o_lst_l, o_lst_t, o_tup_l, o_tup_t, List.map_cons, List.map_nil, List.append_nil, List.nil_append, List.cons_append, List.length_cons, List.length_nil, List.getElem?_cons_zero, List.getElem?_cons_succ, List.set_cons_zero, List.set_cons_succ, if_true, if_false, List.replicate_zero, List.replicate_succ, List.length_set, Bool.not_true, Bool.not_false, decide_true, decide_false, true_and, and_true, Nat.reduceAdd, Nat.reduceLT, Nat.reduceLeDiff, reduceIte, reduceCtorEq, op_list_lot, len_lot, e1, sl_lot, b1, b2, t1, t7, d0, e2, ix_lot, ij, c1, c2, lt7, d1]
      · rcases List.mem_append.mp hx with hx | hx
        · exact base x hx
        · rw [List.mem_singleton.mp hx]; exact bad1
      · rw [List.length_append, lB]; exact (by decide : 7 + 1 < 100)
  · have d0 : decide ((0 : Int) < (((strsD l).length : Nat) : Int)) = false := decide_eq_false (by omega)
    have d1 : decide ((1 : Int) < (((strsD l).length : Nat) : Int)) = false := decide_eq_false (by omega)
    refine ⟨BL, _, ?_, hb1, base, by omega⟩
    rw [hBL]
    unfold f__law_no_lots g__law_no_lots
    simp only [e_op4, e_op3, e_op2, e_op1, e_op, e_un2, e_un1, e_un, e_seq_nx, e_seq_rt, e_seq_bk, e_seq_ct, e_seq, e_nx, e_bk, e_ct, e_put, e_set1, e_set, e_drop1, e_drop, e_ret1, e_ret, e_retN, e_if_t, e_if_f, e_ifS, e_ifE, e_test1, e_test, e_not1, e_not, e_and_t, e_and_f, e_and, e_or_t, e_or_f, e_or, e_andV_t, e_andV_f, e_andV, e_orV_t, e_orV_f, e_orV, e_notV1, e_notV, e_nil, e_cons2, e_cons1, e_cons, e_tk2, e_tk1, e_tk0, e_tk, e_tup2, e_tup1, e_tup, e_lst2, e_lst1, e_lst, e_da1, e_da0, e_da, e_cb2, e_cb1, e_cb, e_v_d, e_v_o, e_v_b, e_v, e_c, e_h_d, e_h_f, e_h_s, e_h_b, e_at1, e_at, e_lm, e_d_d, e_d_f, e_d_s, e_d_b, e_ts, e_t_d, e_t_f, e_t_s, e_p_d, e_p_l, e_p_t, e_put_d, e_put_f, e_put_b, e_bx1, e_bx, e_ap2, e_ap1, e_ap0, e_apS, e_ap, e_arg2, e_arg1, e_arg0, e_arg_b, e_arg_d, e_arg_s, e_cl3, e_cl2, e_cl1, e_cl, e_rv_d, e_rv_o, e_rv_b, e_df2, e_df_r, e_df_n, e_df, e_om, e_r_d, e_r_f, e_r_s, e_r_b, e_ff_n, e_ff_c, e_ff_b, e_ff_r, e_fg, e_fr1, e_fr, e_nm, e_im, e_it2, e_it1, e_it, e_i_l, e_i_t, e_lc3, e_lc1, e_lc, e_io1, e_io, e_iv2, e_iv_d, e_iv_o, e_iv, e_ch6, e_ch5, e_ch4t, e_ch4f, e_ch3, e_ch2, e_ch1, e_ch, e_so_d, e_so_f, e_pr3, e_pr2, e_pr1, e_pr, e_sl4, e_sl3, e_sl2, e_sl1, e_sl, e_nop, e_pt1, e_pt, o_sl_l, o_sl_t, e_yes, e_wp, e_wp0, e_wp1, e_re0, e_re1, e_kd_d, e_kd_o, e_kd_b, e_kd_n, o_add_i, o_add_s, o_add_l, o_add_t, o_sub, o_mul, o_div, o_mod, o_pow, o_lt_i, o_lt_s, o_le_i, o_le_s, o_gt_i, o_ge_i, o_ix_l, o_ix_t, o_ixK, o_len_l, o_len_t, o_len_s, o_int_i, o_int_b, o_abs, o_max, o_min, o_lst_l, o_lst_t, o_tup_l, o_tup_t, List.map_cons, List.map_nil, List.append_nil, List.nil_append, List.cons_append, List.length_cons, List.length_nil, List.getElem?_cons_zero, List.getElem?_cons_succ, List.set_cons_zero, List.set_cons_succ, if_true, if_false, List.replicate_zero, List.replicate_succ, List.length_set, Bool.not_true, Bool.not_false, decide_true, decide_false, true_and, and_true, Nat.reduceAdd, Nat.reduceLT, Nat.reduceLeDiff, reduceIte, reduceCtorEq, op_list_lot, len_lot, e1, sl_lot, b1, b2, t1, t7, d0, d1]
end XN

set_option maxRecDepth 100000
set_option maxHeartbeats 4000000
/-! mathematics: the least and the greatest lots of a row -/
namespace XN
open PySem PySem.Spec PyProof.Rows PySem.W L2 Evl XD

theorem greedy_mem {rel : List Str → List Str → Bool} (tr : ∀ a b c, rel a b = true → rel b c = true → rel a c = true) : ∀ (ls acc : List (List Str)), ls.Pairwise (fun a b => ¬ rel b a = true) → ∀ x, x ∈ greedy rel ls acc ↔ x ∈ acc ∨ (x ∈ ls ∧ (∀ k ∈ acc, ¬ rel k x = true) ∧ ∀ k ∈ ls, rel k x = true → k = x)
  | [], acc, _, x => by
    unfold greedy
    constructor
    · exact .inl
    · rintro (h | ⟨h, _⟩)
      · exact h
      · cases h
  | l :: ls, acc, hp, x => by
    have hp' := List.pairwise_cons.mp hp
    unfold greedy
    cases ha : acc.any fun k => rel k l with
    | true =>
      rw [if_pos rfl, greedy_mem tr ls acc hp'.2 x]
      obtain ⟨k0, hk0, hr⟩ := List.any_eq_true.mp ha
      constructor
      · rintro (h | ⟨h1, h2, h3⟩)
        · exact .inl h
        · refine .inr ⟨List.mem_cons_of_mem _ h1, h2, fun k hk hkx => ?_⟩
          rcases List.mem_cons.mp hk with rfl | hk
          · exact absurd (tr _ _ _ hr hkx) (h2 k0 hk0)
          · exact h3 k hk hkx
      · rintro (h | ⟨h1, h2, h3⟩)
        · exact .inl h
        · rcases List.mem_cons.mp h1 with rfl | h1
          · exact absurd hr (h2 k0 hk0)
          · exact .inr ⟨h1, h2, fun k hk => h3 k (List.mem_cons_of_mem _ hk)⟩
    | false =>
      rw [if_neg (by decide), greedy_mem tr ls (acc ++ [l]) hp'.2 x]
      have hn : ∀ k ∈ acc, ¬ rel k l = true := fun k hk hr => by
        have : acc.any (fun k => rel k l) = true := List.any_eq_true.mpr ⟨k, hk, hr⟩
        rw [ha] at this
        cases this
      constructor
      · rintro (h | ⟨h1, h2, h3⟩)
        · rcases List.mem_append.mp h with h | h
          · exact .inl h
          · obtain rfl := List.mem_singleton.mp h
            refine .inr ⟨List.mem_cons_self .., hn, fun k hk hr => ?_⟩
            rcases List.mem_cons.mp hk with h | hk
            · exact h
            · exact absurd hr (hp'.1 k hk)
        · refine .inr ⟨List.mem_cons_of_mem _ h1, fun k hk => h2 k (List.mem_append_left _ hk), fun k hk hr => ?_⟩
          rcases List.mem_cons.mp hk with rfl | hk
          · exact absurd hr (h2 k (List.mem_append_right _ (List.mem_singleton.mpr rfl)))
          · exact h3 k hk hr
      · rintro (h | ⟨h1, h2, h3⟩)
        · exact .inl (List.mem_append_left _ h)
        · rcases List.mem_cons.mp h1 with rfl | h1
          · exact .inl (List.mem_append_right _ (List.mem_singleton.mpr rfl))
          · by_cases hr : rel l x = true
            · obtain rfl := h3 l (List.mem_cons_self ..) hr
              exact .inl (List.mem_append_right _ (List.mem_singleton.mpr rfl))
            · refine .inr ⟨h1, fun k hk => ?_, fun k hk => h3 k (List.mem_cons_of_mem _ hk)⟩
              rcases List.mem_append.mp hk with hk | hk
              · exact h2 k hk
              · rw [List.mem_singleton.mp hk]
                exact hr
theorem greedy_sub {rel : List Str → List Str → Bool} : ∀ (ls acc : List (List Str)), ∃ m, greedy rel ls acc = acc ++ m ∧ m.Sublist ls
  | [], acc => ⟨[], (List.append_nil _).symm, List.Sublist.refl _⟩
  | l :: ls, acc => by
    unfold greedy
    split
    · obtain ⟨m, h1, h2⟩ := greedy_sub (rel := rel) ls acc
      exact ⟨m, h1, h2.cons l⟩
    · obtain ⟨m, h1, h2⟩ := greedy_sub (rel := rel) ls (acc ++ [l])
      exact ⟨l :: m, by rw [h1, List.append_assoc]; rfl, h2.cons_cons l⟩
theorem part_trans {a b c : List Str} (h1 : partL a b = true) (h2 : partL b c = true) : partL a c = true := part_iff.mpr fun z m => part_iff.mp h2 z (part_iff.mp h1 z m)
/-- two lots, one inside the other, not longer -/
theorem part_len {a c : List Str} (ha : Ord a) (hc : Ord c) (h : partL a c = true) (hl : c.length ≤ a.length) : a = c := by
  have s : a.Sublist c := hc.subl ha (part_iff.mp h)
  exact s.eq_of_length_le hl
theorem lenLe_up (a c : List Str) : lenLe false a c = decide (a.length ≤ c.length) := by
  unfold lenLe
  have e : dataLe false lenK (lotD a) (lotD c) = dataLe false (fun b : PyData => PyData.int (((lenOf b).getD 0 : Nat) : Int)) (lotD a) (lotD c) := rfl
  rw [e, dataLe_int]
  show decide (((a.map PyData.str).length : Int) ≤ ((c.map PyData.str).length : Int)) = _
  rw [List.length_map, List.length_map]
  exact decide_eq_decide.mpr Int.ofNat_le
theorem lenLe_down (a c : List Str) : lenLe true a c = decide (c.length ≤ a.length) := by
  rw [← lenLe_up c a]
  unfold lenLe
  rw [dataLe_eq, dataLe_eq]
  rfl
theorem up_total : TotalLe (lenLe false) := ⟨fun a b c h1 h2 => by
  rw [lenLe_up] at *
  exact decide_eq_true (Nat.le_trans (of_decide_eq_true h1) (of_decide_eq_true h2)), fun a b => by
  rw [lenLe_up, lenLe_up]
  rcases Nat.le_total a.length b.length with h | h
  · exact .inl (decide_eq_true h)
  · exact .inr (decide_eq_true h)⟩
theorem down_total : TotalLe (lenLe true) := ⟨fun a b c h1 h2 => by
  rw [lenLe_down] at *
  exact decide_eq_true (Nat.le_trans (of_decide_eq_true h2) (of_decide_eq_true h1)), fun a b => by
  rw [lenLe_down, lenLe_down]
  rcases Nat.le_total a.length b.length with h | h
  · exact .inr (decide_eq_true h)
  · exact .inl (decide_eq_true h)⟩
def someOf (ns : List Str) (row : List (List Str)) : List (List Str) := (partsL ns).filter fun l => decide (l ∈ row)
theorem mem_some {ns : List Str} {row : List (List Str)} (h : ∀ l ∈ row, l.Sublist ns) {x : List Str} : x ∈ someOf ns row ↔ x ∈ row := by
  unfold someOf
  rw [List.mem_filter, mem_parts]
  exact ⟨fun q => of_decide_eq_true q.2, fun q => ⟨h x q, decide_eq_true q⟩⟩
def leastD (ns : List Str) (row : List (List Str)) : List (List Str) := (someOf ns row).filter fun l => decide (((someOf ns row).filter fun o => insideL o l).length = 0)
def greatestD (ns : List Str) (row : List (List Str)) : List (List Str) := (someOf ns row).filter fun l => decide (((someOf ns row).filter fun o => insideL l o).length = 0)
theorem inside_iff {a c : List Str} : insideL a c = true ↔ a ≠ c ∧ partL a c = true := by
  unfold insideL
  rw [Bool.and_eq_true]
  constructor
  · rintro ⟨h1, h2⟩
    refine ⟨fun e => ?_, h2⟩
    rw [decide_eq_true e] at h1
    cases h1
  · rintro ⟨h1, h2⟩
    exact ⟨by rw [decide_eq_false h1]; rfl, h2⟩
theorem none_iff {α : Type} {p : α → Bool} {l : List α} : decide ((l.filter p).length = 0) = true ↔ ∀ x ∈ l, ¬ p x = true := by
  constructor
  · intro h x hx hp
    have := List.eq_nil_of_length_eq_zero (of_decide_eq_true h)
    exact (List.filter_eq_nil_iff.mp this) x hx hp
  · intro h
    rw [List.filter_eq_nil_iff.mpr h]
    rfl
theorem pick_eq {ns : List Str} {row : List (List Str)} (hn : Ord ns) (hr : ∀ l ∈ row, l.Sublist ns) {le : List Str → List Str → Bool} (tot : TotalLe le) {rel : List Str → List Str → Bool} (tr : ∀ a b c, rel a b = true → rel b c = true → rel a c = true)
    (hle : ∀ a b, Ord a → Ord b → le a b = true → rel b a = true → b = a) {p : List Str → Bool} (hp : ∀ x, p x = true ↔ ∀ o ∈ row, rel o x = true → o = x) :
    (someOf ns row).filter p = sortL (greedy rel ((sortL (undup row)).mergeSort le) []) := by
  have nd : ((sortL (undup row)).mergeSort le).Nodup := by
    rw [(List.mergeSort_perm _ _).nodup_iff, (sortL_perm _).nodup_iff]
    exact nodup_undup _
  have mem : ∀ x, x ∈ (sortL (undup row)).mergeSort le ↔ x ∈ row := fun x => by
    rw [(List.mergeSort_perm _ _).mem_iff, (sortL_perm _).mem_iff, mem_undup]
  have pw : ((sortL (undup row)).mergeSort le).Pairwise fun a b => ¬ rel b a = true := by
    have h1 := sort_pairwise tot (sortL (undup row))
    refine (List.Pairwise.and h1 nd).imp_of_mem fun {a b} ha hb h hrel => ?_
    exact h.2 (hle a b (hn.sub (hr a ((mem a).mp ha))) (hn.sub (hr b ((mem b).mp hb))) h.1 hrel).symm
  refine sortL_of ?_ ?_
  · have n1 : ((someOf ns row).filter p).Nodup := ((nodup_parts hn.nd).sublist List.filter_sublist).sublist List.filter_sublist
    have n2 : (greedy rel ((sortL (undup row)).mergeSort le) []).Nodup := by
      obtain ⟨m, h1, h2⟩ := greedy_sub (rel := rel) ((sortL (undup row)).mergeSort le) []
      rw [h1, List.nil_append]
      exact nd.sublist h2
    refine (List.perm_ext_iff_of_nodup n1 n2).mpr fun x => ?_
    rw [List.mem_filter, mem_some hr, greedy_mem tr _ _ pw, mem, hp]
    constructor
    · rintro ⟨h1, h2⟩
      exact .inr ⟨h1, fun k hk => absurd hk (by simp), fun k hk h => h2 k ((mem k).mp hk) h⟩
    · rintro (h | ⟨h1, _, h2⟩)
      · exact absurd h (by simp)
      · exact ⟨h1, fun o ho h => h2 o ((mem o).mpr ho) h⟩
  · exact ((sortL_sorted _).sublist List.filter_sublist).sublist List.filter_sublist
theorem least_eq {ns : List Str} {row : List (List Str)} (hn : Ord ns) (hr : ∀ l ∈ row, l.Sublist ns) : leastD ns row = leastL row := by
  refine pick_eq hn hr up_total (rel := fun k l => partL k l) (fun a b c => part_trans) (fun a b oa ob h1 h2 => ?_) fun x => ?_
  · rw [lenLe_up] at h1
    exact part_len ob oa h2 (of_decide_eq_true h1)
  · rw [none_iff]
    constructor
    · intro h o ho hp
      by_cases e : o = x
      · exact e
      · exact absurd (inside_iff.mpr ⟨e, hp⟩) (h o ((mem_some hr).mpr ho))
    · intro h o ho hi
      have := inside_iff.mp hi
      exact this.1 (h o ((mem_some hr).mp ho) this.2)
theorem greatest_eq {ns : List Str} {row : List (List Str)} (hn : Ord ns) (hr : ∀ l ∈ row, l.Sublist ns) : greatestD ns row = greatestL row := by
  refine pick_eq hn hr down_total (rel := fun k l => partL l k) (fun a b c h1 h2 => part_trans h2 h1) (fun a b oa ob h1 h2 => ?_) fun x => ?_
  · rw [lenLe_down] at h1
    exact (part_len oa ob h2 (of_decide_eq_true h1)).symm
  · rw [none_iff]
    constructor
    · intro h o ho hp
      by_cases e : o = x
      · exact e
      · exact absurd (inside_iff.mpr ⟨fun q => e q.symm, hp⟩) (h o ((mem_some hr).mpr ho))
    · intro h o ho hi
      have := inside_iff.mp hi
      exact this.1 (h o ((mem_some hr).mp ho) this.2).symm
end XN

set_option maxRecDepth 100000
set_option maxHeartbeats 4000000
/-! the law: helpers, one turn of its inner loop -/
namespace XN
open PySem PySem.Spec PyProof.Rows PySem.W L2 Evl XD

theorem lay_bools : ∀ l : List Bool, PyData.canLayAll0 (l.map PyData.bool) = true
  | [] => by simp [PyData.canLayAll0]
  | z :: l => by
    show PyData.canLayAll0 (.bool z :: l.map PyData.bool) = true
    rw [PyData.canLayAll0, PyData.canLay0, lay_bools l]
    rfl
theorem depth_bools : ∀ l : List Bool, PyData.depthAll (l.map PyData.bool) = 0
  | [] => by simp [PyData.depthAll]
  | z :: l => by
    show PyData.depthAll (.bool z :: l.map PyData.bool) = 0
    rw [PyData.depthAll, PyData.depth, depth_bools l]
    rfl
theorem shaped_bools (l : List Bool) : SeqAt.shaped (.list (l.map PyData.bool)) = true := by
  show (PyData.canLay0 (.list (l.map PyData.bool)) && decide (PyData.depth (.list (l.map PyData.bool)) ≤ 64)) = true
  rw [PyData.canLay0, lay_bools, PyData.depth, depth_bools]
  rfl
theorem shaped_bool (b : Bool) : SeqAt.shaped (.bool b) = true := by
  show (PyData.canLay0 (.bool b) && decide (PyData.depth (.bool b) ≤ 64)) = true
  rw [PyData.canLay0, PyData.depth]
  rfl
theorem true_in (l : List Bool) : opIn (.bool true) (.list (l.map PyData.bool)) = some (.d (.bool (l.any id))) := by
  show (if SeqAt.shaped (.bool true) = true ∧ SeqAt.shaped (.list (l.map PyData.bool)) = true then some (PV.d (.bool ((l.map PyData.bool).any fun z => PyData.eqv z (.bool true)))) else none) = _
  rw [if_pos ⟨shaped_bool _, shaped_bools _⟩, List.any_map]
  have : ((fun z => PyData.eqv z (.bool true)) ∘ PyData.bool) = (id : Bool → Bool) := by
    funext b
    show PyData.eqv (.bool b) (.bool true) = b
    rw [PyData.eqv]
    cases b <;> rfl
  rw [this]
theorem is_not_true (b : Bool) : opIsNot (.bool b) (.bool true) = some (.d (.bool (!decide (b = true)))) := rfl
theorem all_false {xs : List PyData} {f : PyData → Bool} (h : ∀ x ∈ xs, f x = false) : xs.map (fun x => PyData.bool (f x)) = (xs.map fun _ => false).map PyData.bool := by
  rw [List.map_map]
  exact List.map_congr_left fun x hx => by rw [h x hx]; rfl
theorem any_false {α : Type} (xs : List α) : (xs.map fun _ => false).any id = false := by
  rw [List.any_map]
  exact List.any_eq_false.mpr fun _ _ => nofun
/-- a comprehension that asks a def of each -/
theorem ask_fold {F : DFun} {all : List PyData} {e : List (Option SV)} {b : List Int} {k : Nat} {f : PyData → Bool} (hk : e[k]? = some none) : ∀ (xs : List PyData), (∀ x ∈ xs, F [.d x] b = some (.d (.bool (f x)), b)) →
    lcFold [k] none all (dName k) dYes (dCall F (dCons (dV k) dNil)) xs ⟨e, b⟩ = some (xs.map fun x => .bool (f x), ⟨e, b⟩) := fun xs h => by
  have lk := (List.getElem?_eq_some_iff.mp hk).1
  have key := lc_map (vs := [k]) (on := none) (all := all) (i := k) (c := dYes) (f := dCall F (dCons (dV k) dNil)) (e := e) (b := b) (fun _ => true) (fun x => .bool (f x)) chk_none lk (fun x => set_back hk _) xs (fun x _ => rfl) fun x hx _ => by
      have gk : (e.set k (some (.d x)))[k]? = some (some (.d x)) := List.getElem?_set_self lk
      have hx := h x hx
      refine ⟨.d (.bool (f x)), ?_, rfl⟩
      simp only [e_op4, e_op3, e_op2, e_op1, e_op, e_un2, e_un1, e_un, e_seq_nx, e_seq_rt, e_seq_bk, e_seq_ct, e_seq, e_nx, e_bk, e_ct, e_put, e_set1, e_set, e_drop1, e_drop, e_ret1, e_ret, e_retN, e_if_t, e_if_f, e_ifS, e_ifE, e_test1, e_test, e_not1, e_not, e_and_t, e_and_f, e_and, e_or_t, e_or_f, e_or, e_andV_t, e_andV_f, e_andV, e_orV_t, e_orV_f, e_orV, e_notV1, e_notV, e_nil, e_cons2, e_cons1, e_cons, e_tk2, e_tk1, e_tk0, e_tk, e_tup2, e_tup1, e_tup, e_lst2, e_lst1, e_lst, e_da1, e_da0, e_da, e_cb2, e_cb1, e_cb, e_v_d, e_v_o, e_v_b, e_v, e_c, e_h_d, e_h_f, e_h_s, e_h_b, e_at1, e_at, e_lm, e_d_d, e_d_f, e_d_s, e_d_b, e_ts, e_t_d, e_t_f, e_t_s, e_p_d, e_p_l, e_p_t, e_put_d, e_put_f, e_put_b, e_bx1, e_bx, e_ap2, e_ap1, e_ap0, e_apS, e_ap, e_arg2, e_arg1, e_arg0, e_arg_b, e_arg_d, e_arg_s, e_cl3, e_cl2, e_cl1, e_cl, e_rv_d, e_rv_o, e_rv_b, e_df2, e_df_r, e_df_n, e_df, e_om, e_r_d, e_r_f, e_r_s, e_r_b, e_ff_n, e_ff_c, e_ff_b, e_ff_r, e_fg, e_fr1, e_fr, e_nm, e_im, e_it2, e_it1, e_it, e_i_l, e_i_t, e_lc3, e_lc1, e_lc, e_io1, e_io, e_iv2, e_iv_d, e_iv_o, e_iv, e_ch6, e_ch5, e_ch4t, e_ch4f, e_ch3, e_ch2, e_ch1, e_ch, e_so_d, e_so_f, e_pr3, e_pr2, e_pr1, e_pr, e_sl4, e_sl3, e_sl2, e_sl1, e_sl, e_nop, e_pt1, e_pt, o_sl_l, o_sl_t, e_yes, e_wp, e_wp0, e_wp1, e_re0, e_re1, e_kd_d, e_kd_o, e_kd_b, e_kd_n, o_add_i, o_add_s, o_add_l, o_add_t, o_sub, o_mul, o_div, o_mod, o_pow, o_lt_i, o_lt_s, o_le_i, o_le_s, o_gt_i, o_ge_i, o_ix_l, o_ix_t, o_ixK, o_len_l, o_len_t, o_len_s, o_int_i, o_int_b, o_abs, o_max, o_min, o_lst_l, o_lst_t, o_tup_l, o_tup_t, List.map_cons, List.map_nil, List.append_nil, List.nil_append, List.cons_append, List.length_cons, List.length_nil, List.getElem?_cons_zero, List.getElem?_cons_succ, List.set_cons_zero, List.set_cons_succ, if_true, if_false, List.replicate_zero, List.replicate_succ, List.length_set, Bool.not_true, Bool.not_false, decide_true, decide_false, true_and, and_true, Nat.reduceAdd, Nat.reduceLT, Nat.reduceLeDiff, reduceIte, reduceCtorEq, gk, hx]
  rw [filter_yes] at key
  exact key
end XN

set_option maxRecDepth 100000
set_option maxHeartbeats 4000000
/-! the law: one turn of its inner loop -/
namespace XN
open PySem PySem.Spec PyProof.Rows PySem.W L2 Evl XD

noncomputable def turnA : DS := dPar 7 8 (dCall f__law_pick (dCons (dV 2) (dCons (dV 4) dNil))) (dCall f__law_pick (dCons (dV 2) (dCons (dV 4) dNil)))
noncomputable def turnB : DS := dIfS (dTest (dOp opEq (dV 6) (dC (.int 1)))) (dSet 7 (dCB opTup (dCons (dLc [14] (dItV [14] 7) (dName 14) (dTest (dOp opIn (dV 14) (dV 8))) (dV 14)) dNil))) dNx
noncomputable def turnC : DS := dIfS (dOr (dNot (dTest (dCall f__law_pair_right (dCons (dV 7) (dCons (dV 8) (dCons (dV 4) dNil)))))) (dNot (dTest (dCall f__law_pair_right (dCons (dV 8) (dCons (dV 7) (dCons (dV 4) dNil))))))) (dRet (dC (.bool false))) dNx
noncomputable def turnD : DS := dIfS (dOr (dTest (dOp opIsNot (dCall f_is_lot (dCons (dV 7) dNil)) (dC (.bool true)))) (dTest (dOp opIn (dC (.bool true)) (dLc [15] (dIo (dItems (dCall f__law_no_lots (dCons (dV 2) (dCons (dV 7) dNil))))) (dName 15) dYes (dCall f_is_lot (dCons (dV 15) dNil)))))) (dRet (dC (.bool false))) dNx
section
variable {ns : List Str} {s0 s1 s3 s5 o4 o7 o8 o9 o10 o11 o12 o13 o14 : Option SV} {t : Int} {b : List Int}
theorem turn_a (hb : Bx b) (h4 : o4 = some (.own (lotsD (partsL ns))) ∨ o4 = some (.d (.list (lotsD (partsL ns))))) (short : ns.length ≤ 5) : ∃ a c b', Bx b' ∧ a.Sublist ns ∧ c.Sublist ns ∧
    turnA ⟨[s0, s1, some .bx, s3, o4, s5, some (.d (.int t)), o7, o8, o9, o10, o11, o12, o13, o14, none, none], b⟩ = some (.nx, ⟨[s0, s1, some .bx, s3, some (.d (.list (lotsD (partsL ns)))), s5, some (.d (.int t)), some (.d (lotD a)), some (.d (lotD c)), o9, o10, o11, o12, o13, o14, none, none], b'⟩) := by
  have cnt : (lotsD (partsL ns)).length = 2 ^ ns.length := by
    show ((partsL ns).map lotD).length = _
    rw [List.length_map, parts_count]
  have p2 : 0 < 2 ^ ns.length := Nat.pow_pos (by decide)
  have p3 : 2 ^ ns.length ≤ 32 := Nat.le_trans (Nat.pow_le_pow_right (by decide) short) (by decide)
  have ne : lotsD (partsL ns) ≠ [] := fun z => by
    rw [z] at cnt
    simp at cnt
    omega
  obtain ⟨r, b1, e1, m1, hb1⟩ := pick_is hb ne (by omega)
  obtain ⟨q, b2, e2, m2, hb2⟩ := pick_is hb1 ne (by omega)
  obtain ⟨a, ha, rfl⟩ := mem_lotsD m1
  obtain ⟨c, hc, rfl⟩ := mem_lotsD m2
  refine ⟨a, c, b2, hb2, mem_parts.mp ha, mem_parts.mp hc, ?_⟩
  unfold turnA
  rcases h4 with rfl | rfl
  · simp only [e_op4, e_op3, e_op2, e_op1, e_op, e_un2, e_un1, e_un, e_seq_nx, e_seq_rt, e_seq_bk, e_seq_ct, e_seq, e_nx, e_bk, e_ct, e_put, e_set1, e_set, e_drop1, e_drop, e_ret1, e_ret, e_retN, e_if_t, e_if_f, e_ifS, e_ifE, e_test1, e_test, e_not1, e_not, e_and_t, e_and_f, e_and, e_or_t, e_or_f, e_or, e_andV_t, e_andV_f, e_andV, e_orV_t, e_orV_f, e_orV, e_notV1, e_notV, e_nil, e_cons2, e_cons1, e_cons, e_tk2, e_tk1, e_tk0, e_tk, e_tup2, e_tup1, e_tup, e_lst2, e_lst1, e_lst, e_da1, e_da0, e_da, e_cb2, e_cb1, e_cb, e_v_d, e_v_o, e_v_b, e_v, e_c, e_h_d, e_h_f, e_h_s, e_h_b, e_at1, e_at, e_lm, e_d_d, e_d_f, e_d_s, e_d_b, e_ts, e_t_d, e_t_f, e_t_s, e_p_d, e_p_l, e_p_t, e_put_d, e_put_f, e_put_b, e_bx1, e_bx, e_ap2, e_ap1, e_ap0, e_apS, e_ap, e_arg2, e_arg1, e_arg0, e_arg_b, e_arg_d, e_arg_s, e_cl3, e_cl2, e_cl1, e_cl, e_rv_d, e_rv_o, e_rv_b, e_df2, e_df_r, e_df_n, e_df, e_om, e_r_d, e_r_f, e_r_s, e_r_b, e_ff_n, e_ff_c, e_ff_b, e_ff_r, e_fg, e_fr1, e_fr, e_nm, e_im, e_it2, e_it1, e_it, e_i_l, e_i_t, e_lc3, e_lc1, e_lc, e_io1, e_io, e_iv2, e_iv_d, e_iv_o, e_iv, e_ch6, e_ch5, e_ch4t, e_ch4f, e_ch3, e_ch2, e_ch1, e_ch, e_so_d, e_so_f, e_pr3, e_pr2, e_pr1, e_pr, e_sl4, e_sl3, e_sl2, e_sl1, e_sl, e_nop, e_pt1, e_pt, o_sl_l, o_sl_t, e_yes, e_wp, e_wp0, e_wp1, e_re0, e_re1, e_kd_d, e_kd_o, e_kd_b, e_kd_n, o_add_i, o_add_s, o_add_l, o_add_t, o_sub, o_mul, o_div, o_mod, o_pow, o_lt_i, o_lt_s, o_le_i, o_le_s, o_gt_i, o_ge_i, o_ix_l, o_ix_t, o_ixK, o_len_l, o_len_t, o_len_s, o_int_i, o_int_b, o_abs, o_max, o_min, o_lst_l, o_lst_t, o_tup_l, o_tup_t, List.map_cons, List.map_nil, List.append_nil, List.nil_append, List.cons_append, List.length_cons, List.length_nil, List.getElem?_cons_zero, List.getElem?_cons_succ, List.set_cons_zero, List.set_cons_succ, if_true, if_false, List.replicate_zero, List.replicate_succ, List.length_set, Bool.not_true, Bool.not_false, decide_true, decide_false, true_and, and_true, Nat.reduceAdd, Nat.reduceLT, Nat.reduceLeDiff, reduceIte, reduceCtorEq, e1, e2, ne_eq, Nat.reduceEqDiff, not_false_eq_true]
  · simp only [e_op4, e_op3, e_op2, e_op1, e_op, e_un2, e_un1, e_un, e_seq_nx, e_seq_rt, e_seq_bk, e_seq_ct, e_seq, e_nx, e_bk, e_ct, e_put, e_set1, e_set, e_drop1, e_drop, e_ret1, e_ret, e_retN, e_if_t, e_if_f, e_ifS, e_ifE, e_test1, e_test, e_not1, e_not, e_and_t, e_and_f, e_and, e_or_t, e_or_f, e_or, e_andV_t, e_andV_f, e_andV, e_orV_t, e_orV_f, e_orV, e_notV1, e_notV, e_nil, e_cons2, e_cons1, e_cons, e_tk2, e_tk1, e_tk0, e_tk, e_tup2, e_tup1, e_tup, e_lst2, e_lst1, e_lst, e_da1, e_da0, e_da, e_cb2, e_cb1, e_cb, e_v_d, e_v_o, e_v_b, e_v, e_c, e_h_d, e_h_f, e_h_s, e_h_b, e_at1, e_at, e_lm, e_d_d, e_d_f, e_d_s, e_d_b, e_ts, e_t_d, e_t_f, e_t_s, e_p_d, e_p_l, e_p_t, e_put_d, e_put_f, e_put_b, e_bx1, e_bx, e_ap2, e_ap1, e_ap0, e_apS, e_ap, e_arg2, e_arg1, e_arg0, e_arg_b, e_arg_d, e_arg_s, e_cl3, e_cl2, e_cl1, e_cl, e_rv_d, e_rv_o, e_rv_b, e_df2, e_df_r, e_df_n, e_df, e_om, e_r_d, e_r_f, e_r_s, e_r_b, e_ff_n, e_ff_c, e_ff_b, e_ff_r, e_fg, e_fr1, e_fr, e_nm, e_im, e_it2, e_it1, e_it, e_i_l, e_i_t, e_lc3, e_lc1, e_lc, e_io1, e_io, e_iv2, e_iv_d, e_iv_o, e_iv, e_ch6, e_ch5, e_ch4t, e_ch4f, e_ch3, e_ch2, e_ch1, e_ch, e_so_d, e_so_f, e_pr3, e_pr2, e_pr1, e_pr, e_sl4, e_sl3, e_sl2, e_sl1, e_sl, e_nop, e_pt1, e_pt, o_sl_l, o_sl_t, e_yes, e_wp, e_wp0, e_wp1, e_re0, e_re1, e_kd_d, e_kd_o, e_kd_b, e_kd_n, o_add_i, o_add_s, o_add_l, o_add_t, o_sub, o_mul, o_div, o_mod, o_pow, o_lt_i, o_lt_s, o_le_i, o_le_s, o_gt_i, o_ge_i, o_ix_l, o_ix_t, o_ixK, o_len_l, o_len_t, o_len_s, o_int_i, o_int_b, o_abs, o_max, o_min, o_lst_l, o_lst_t, o_tup_l, o_tup_t, List.map_cons, List.map_nil, List.append_nil, List.nil_append, List.cons_append, List.length_cons, List.length_nil, List.getElem?_cons_zero, List.getElem?_cons_succ, List.set_cons_zero, List.set_cons_succ, if_true, if_false, List.replicate_zero, List.replicate_succ, List.length_set, Bool.not_true, Bool.not_false, decide_true, decide_false, true_and, and_true, Nat.reduceAdd, Nat.reduceLT, Nat.reduceLeDiff, reduceIte, reduceCtorEq, e1, e2, ne_eq, Nat.reduceEqDiff, not_false_eq_true]
theorem turn_b {a c : List Str} (on : ∀ z ∈ ns, nameL z = true) (ha : a.Sublist ns) (hc : c.Sublist ns) (short : ns.length ≤ 5) : ∃ a' o14', a'.Sublist ns ∧
    turnB ⟨[s0, s1, some .bx, s3, some (.d (.list (lotsD (partsL ns)))), s5, some (.d (.int t)), some (.d (lotD a)), some (.d (lotD c)), o9, o10, o11, o12, o13, o14, none, none], b⟩ = some (.nx, ⟨[s0, s1, some .bx, s3, some (.d (.list (lotsD (partsL ns)))), s5, some (.d (.int t)), some (.d (lotD a')), some (.d (lotD c)), o9, o10, o11, o12, o13, o14', none, none], b⟩) := by
  have ka : Oks a := fun z m => name_ok (on z (ha.subset m))
  have kc : Oks c := fun z m => name_ok (on z (hc.subset m))
  have fa : Few a := Nat.lt_of_le_of_lt (Nat.le_trans ha.length_le short) (by decide)
  unfold turnB
  cases ht : (t == 1) with
  | true =>
    have k := fold_in (all := strsD a) (e := [s0, s1, some .bx, s3, some (.d (.list (lotsD (partsL ns)))), s5, some (.d (.int t)), some (.d (lotD a)), some (.d (lotD c)), o9, o10, o11, o12, o13, none, none, none]) (b := b) (j := 8) (k := 14) (l := a) (m := c) rfl rfl ka kc
    have s := few_strs (few_filter (p := fun z => decide (z ∈ c)) fa)
    have s' : (strsD (commonL a c)).length < 100000 := s
    refine ⟨commonL a c, keepD (some o14), (List.filter_sublist).trans ha, ?_⟩
    simp only [e_op4, e_op3, e_op2, e_op1, e_op, e_un2, e_un1, e_un, e_seq_nx, e_seq_rt, e_seq_bk, e_seq_ct, e_seq, e_nx, e_bk, e_ct, e_put, e_set1, e_set, e_drop1, e_drop, e_ret1, e_ret, e_retN, e_if_t, e_if_f, e_ifS, e_ifE, e_test1, e_test, e_not1, e_not, e_and_t, e_and_f, e_and, e_or_t, e_or_f, e_or, e_andV_t, e_andV_f, e_andV, e_orV_t, e_orV_f, e_orV, e_notV1, e_notV, e_nil, e_cons2, e_cons1, e_cons, e_tk2, e_tk1, e_tk0, e_tk, e_tup2, e_tup1, e_tup, e_lst2, e_lst1, e_lst, e_da1, e_da0, e_da, e_cb2, e_cb1, e_cb, e_v_d, e_v_o, e_v_b, e_v, e_c, e_h_d, e_h_f, e_h_s, e_h_b, e_at1, e_at, e_lm, e_d_d, e_d_f, e_d_s, e_d_b, e_ts, e_t_d, e_t_f, e_t_s, e_p_d, e_p_l, e_p_t, e_put_d, e_put_f, e_put_b, e_bx1, e_bx, e_ap2, e_ap1, e_ap0, e_apS, e_ap, e_arg2, e_arg1, e_arg0, e_arg_b, e_arg_d, e_arg_s, e_cl3, e_cl2, e_cl1, e_cl, e_rv_d, e_rv_o, e_rv_b, e_df2, e_df_r, e_df_n, e_df, e_om, e_r_d, e_r_f, e_r_s, e_r_b, e_ff_n, e_ff_c, e_ff_b, e_ff_r, e_fg, e_fr1, e_fr, e_nm, e_im, e_it2, e_it1, e_it, e_i_l, e_i_t, e_lc3, e_lc1, e_lc, e_io1, e_io, e_iv2, e_iv_d, e_iv_o, e_iv, e_ch6, e_ch5, e_ch4t, e_ch4f, e_ch3, e_ch2, e_ch1, e_ch, e_so_d, e_so_f, e_pr3, e_pr2, e_pr1, e_pr, e_sl4, e_sl3, e_sl2, e_sl1, e_sl, e_nop, e_pt1, e_pt, o_sl_l, o_sl_t, e_yes, e_wp, e_wp0, e_wp1, e_re0, e_re1, e_kd_d, e_kd_o, e_kd_b, e_kd_n, o_add_i, o_add_s, o_add_l, o_add_t, o_sub, o_mul, o_div, o_mod, o_pow, o_lt_i, o_lt_s, o_le_i, o_le_s, o_gt_i, o_ge_i, o_ix_l, o_ix_t, o_ixK, o_len_l, o_len_t, o_len_s, o_int_i, o_int_b, o_abs, o_max, o_min, o_lst_l, o_lst_t, o_tup_l, o_tup_t, List.map_cons, List.map_nil, List.append_nil, List.nil_append, List.cons_append, List.length_cons, List.length_nil, List.getElem?_cons_zero, List.getElem?_cons_succ, List.set_cons_zero, List.set_cons_succ, if_true, if_false, List.replicate_zero, List.replicate_succ, List.length_set, Bool.not_true, Bool.not_false, decide_true, decide_false, true_and, and_true, Nat.reduceAdd, Nat.reduceLT, Nat.reduceLeDiff, reduceIte, reduceCtorEq, eq_int, ht, items_lot, k, s', lot_tuple]
  | false =>
    refine ⟨a, o14, ha, ?_⟩
    simp only [e_op4, e_op3, e_op2, e_op1, e_op, e_un2, e_un1, e_un, e_seq_nx, e_seq_rt, e_seq_bk, e_seq_ct, e_seq, e_nx, e_bk, e_ct, e_put, e_set1, e_set, e_drop1, e_drop, e_ret1, e_ret, e_retN, e_if_t, e_if_f, e_ifS, e_ifE, e_test1, e_test, e_not1, e_not, e_and_t, e_and_f, e_and, e_or_t, e_or_f, e_or, e_andV_t, e_andV_f, e_andV, e_orV_t, e_orV_f, e_orV, e_notV1, e_notV, e_nil, e_cons2, e_cons1, e_cons, e_tk2, e_tk1, e_tk0, e_tk, e_tup2, e_tup1, e_tup, e_lst2, e_lst1, e_lst, e_da1, e_da0, e_da, e_cb2, e_cb1, e_cb, e_v_d, e_v_o, e_v_b, e_v, e_c, e_h_d, e_h_f, e_h_s, e_h_b, e_at1, e_at, e_lm, e_d_d, e_d_f, e_d_s, e_d_b, e_ts, e_t_d, e_t_f, e_t_s, e_p_d, e_p_l, e_p_t, e_put_d, e_put_f, e_put_b, e_bx1, e_bx, e_ap2, e_ap1, e_ap0, e_apS, e_ap, e_arg2, e_arg1, e_arg0, e_arg_b, e_arg_d, e_arg_s, e_cl3, e_cl2, e_cl1, e_cl, e_rv_d, e_rv_o, e_rv_b, e_df2, e_df_r, e_df_n, e_df, e_om, e_r_d, e_r_f, e_r_s, e_r_b, e_ff_n, e_ff_c, e_ff_b, e_ff_r, e_fg, e_fr1, e_fr, e_nm, e_im, e_it2, e_it1, e_it, e_i_l, e_i_t, e_lc3, e_lc1, e_lc, e_io1, e_io, e_iv2, e_iv_d, e_iv_o, e_iv, e_ch6, e_ch5, e_ch4t, e_ch4f, e_ch3, e_ch2, e_ch1, e_ch, e_so_d, e_so_f, e_pr3, e_pr2, e_pr1, e_pr, e_sl4, e_sl3, e_sl2, e_sl1, e_sl, e_nop, e_pt1, e_pt, o_sl_l, o_sl_t, e_yes, e_wp, e_wp0, e_wp1, e_re0, e_re1, e_kd_d, e_kd_o, e_kd_b, e_kd_n, o_add_i, o_add_s, o_add_l, o_add_t, o_sub, o_mul, o_div, o_mod, o_pow, o_lt_i, o_lt_s, o_le_i, o_le_s, o_gt_i, o_ge_i, o_ix_l, o_ix_t, o_ixK, o_len_l, o_len_t, o_len_s, o_int_i, o_int_b, o_abs, o_max, o_min, o_lst_l, o_lst_t, o_tup_l, o_tup_t, List.map_cons, List.map_nil, List.append_nil, List.nil_append, List.cons_append, List.length_cons, List.length_nil, List.getElem?_cons_zero, List.getElem?_cons_succ, List.set_cons_zero, List.set_cons_succ, if_true, if_false, List.replicate_zero, List.replicate_succ, List.length_set, Bool.not_true, Bool.not_false, decide_true, decide_false, true_and, and_true, Nat.reduceAdd, Nat.reduceLT, Nat.reduceLeDiff, reduceIte, reduceCtorEq, eq_int, ht]
theorem turn_c {a c : List Str} (on : ∀ z ∈ ns, nameL z = true) (od : Ord ns) (ha : a.Sublist ns) (hc : c.Sublist ns) (short : ns.length ≤ 5) :
    turnC ⟨[s0, s1, some .bx, s3, some (.d (.list (lotsD (partsL ns)))), s5, some (.d (.int t)), some (.d (lotD a)), some (.d (lotD c)), o9, o10, o11, o12, o13, o14, none, none], b⟩ = some (.nx, ⟨[s0, s1, some .bx, s3, some (.d (.list (lotsD (partsL ns)))), s5, some (.d (.int t)), some (.d (lotD a)), some (.d (lotD c)), o9, o10, o11, o12, o13, o14, none, none], b⟩) := by
  have e1 := pair_is (b := b) on od ha hc short
  have e2 := pair_is (b := b) on od hc ha short
  unfold turnC
  simp only [e_op4, e_op3, e_op2, e_op1, e_op, e_un2, e_un1, e_un, e_seq_nx, e_seq_rt, e_seq_bk, e_seq_ct, e_seq, e_nx, e_bk, e_ct, e_put, e_set1, e_set, e_drop1, e_drop, e_ret1, e_ret, e_retN, e_if_t, e_if_f, e_ifS, e_ifE, e_test1, e_test, e_not1, e_not, e_and_t, e_and_f, e_and, e_or_t, e_or_f, e_or, e_andV_t, e_andV_f, e_andV, e_orV_t, e_orV_f, e_orV, e_notV1, e_notV, e_nil, e_cons2, e_cons1, e_cons, e_tk2, e_tk1, e_tk0, e_tk, e_tup2, e_tup1, e_tup, e_lst2, e_lst1, e_lst, e_da1, e_da0, e_da, e_cb2, e_cb1, e_cb, e_v_d, e_v_o, e_v_b, e_v, e_c, e_h_d, e_h_f, e_h_s, e_h_b, e_at1, e_at, e_lm, e_d_d, e_d_f, e_d_s, e_d_b, e_ts, e_t_d, e_t_f, e_t_s, e_p_d, e_p_l, e_p_t, e_put_d, e_put_f, e_put_b, e_bx1, e_bx, e_ap2, e_ap1, e_ap0, e_apS, e_ap, e_arg2, e_arg1, e_arg0, e_arg_b, e_arg_d, e_arg_s, e_cl3, e_cl2, e_cl1, e_cl, e_rv_d, e_rv_o, e_rv_b, e_df2, e_df_r, e_df_n, e_df, e_om, e_r_d, e_r_f, e_r_s, e_r_b, e_ff_n, e_ff_c, e_ff_b, e_ff_r, e_fg, e_fr1, e_fr, e_nm, e_im, e_it2, e_it1, e_it, e_i_l, e_i_t, e_lc3, e_lc1, e_lc, e_io1, e_io, e_iv2, e_iv_d, e_iv_o, e_iv, e_ch6, e_ch5, e_ch4t, e_ch4f, e_ch3, e_ch2, e_ch1, e_ch, e_so_d, e_so_f, e_pr3, e_pr2, e_pr1, e_pr, e_sl4, e_sl3, e_sl2, e_sl1, e_sl, e_nop, e_pt1, e_pt, o_sl_l, o_sl_t, e_yes, e_wp, e_wp0, e_wp1, e_re0, e_re1, e_kd_d, e_kd_o, e_kd_b, e_kd_n, o_add_i, o_add_s, o_add_l, o_add_t, o_sub, o_mul, o_div, o_mod, o_pow, o_lt_i, o_lt_s, o_le_i, o_le_s, o_gt_i, o_ge_i, o_ix_l, o_ix_t, o_ixK, o_len_l, o_len_t, o_len_s, o_int_i, o_int_b, o_abs, o_max, o_min, o_lst_l, o_lst_t, o_tup_l, o_tup_t, List.map_cons, List.map_nil, List.append_nil, List.nil_append, List.cons_append, List.length_cons, List.length_nil, List.getElem?_cons_zero, List.getElem?_cons_succ, List.set_cons_zero, List.set_cons_succ, if_true, if_false, List.replicate_zero, List.replicate_succ, List.length_set, Bool.not_true, Bool.not_false, decide_true, decide_false, true_and, and_true, Nat.reduceAdd, Nat.reduceLT, Nat.reduceLeDiff, reduceIte, reduceCtorEq, e1, e2]
theorem bad_asked {x : PyData} (h : BadL x) (b : List Int) : f_is_lot [.d x] b = some (.d (.bool (lotB x)), b) := f_is_lot_is h.2.1 h.2.2
theorem turn_d {a c : List Str} (hb : Bx b) (on : ∀ z ∈ ns, nameL z = true) (od : Ord ns) (ha : a.Sublist ns) (short : ns.length ≤ 5) : ∃ b', Bx b' ∧
    turnD ⟨[s0, s1, some .bx, s3, some (.d (.list (lotsD (partsL ns)))), s5, some (.d (.int t)), some (.d (lotD a)), some (.d (lotD c)), o9, o10, o11, o12, o13, o14, none, none], b⟩ = some (.nx, ⟨[s0, s1, some .bx, s3, some (.d (.list (lotsD (partsL ns)))), s5, some (.d (.int t)), some (.d (lotD a)), some (.d (lotD c)), o9, o10, o11, o12, o13, o14, none, none], b'⟩) := by
  have na : ∀ z ∈ a, nameL z = true := fun z m => on z (ha.subset m)
  have oa := od.sub ha
  have la : a.length ≤ 5 := Nat.le_trans ha.length_le short
  have e1 : f_is_lot [.d (lotD a)] b = some (.d (.bool (lotB (lotD a))), b) := f_is_lot_is (fun ys => nofun) fun xs e => by
    rw [← PyData.tuple.inj e]
    refine ⟨few_strs (Nat.lt_of_le_of_lt la (by decide)), fun y hy => ?_⟩
    obtain ⟨z, hz, rfl⟩ := mem_strsD hy
    exact clean_name (na z hz)
  rw [lot_yes oa na] at e1
  obtain ⟨xs, b1, e2, hb1, bad, fx⟩ := no_lots_is (l := a) hb na oa (by omega)
  have k := ask_fold (F := f_is_lot) (all := xs) (e := [s0, s1, some .bx, s3, some (.d (.list (lotsD (partsL ns)))), s5, some (.d (.int t)), some (.d (lotD a)), some (.d (lotD c)), o9, o10, o11, o12, o13, o14, none, none]) (b := b1) (k := 15) (f := lotB) rfl xs fun x hx => bad_asked (bad x hx) b1
  rw [all_false fun x hx => (bad x hx).1] at k
  have sz : ((xs.map fun _ => false).map PyData.bool).length < 100000 := by
    rw [List.length_map, List.length_map]
    omega
  have tn := true_in (xs.map fun _ => false)
  rw [any_false] at tn
  refine ⟨b1, hb1, ?_⟩
  unfold turnD
  simp only [e_op4, e_op3, e_op2, e_op1, e_op, e_un2, e_un1, e_un, e_seq_nx, e_seq_rt, e_seq_bk, e_seq_ct, e_seq, e_nx, e_bk, e_ct, e_put, e_set1, e_set, e_drop1, e_drop, e_ret1, e_ret, e_retN, e_if_t, e_if_f, e_ifS, e_ifE, e_test1, e_test, e_not1, e_not, e_and_t, e_and_f, e_and, e_or_t, e_or_f, e_or, e_andV_t, e_andV_f, e_andV, e_orV_t, e_orV_f, e_orV, e_notV1, e_notV, e_nil, e_cons2, e_cons1, e_cons, e_tk2, e_tk1, e_tk0, e_tk, e_tup2, e_tup1, e_tup, e_lst2, e_lst1, e_lst, e_da1, e_da0, e_da, e_cb2, e_cb1, e_cb, e_v_d, e_v_o, e_v_b, e_v, e_c, e_h_d, e_h_f, e_h_s, e_h_b, e_at1, e_at, e_lm, e_d_d, e_d_f, e_d_s, e_d_b, e_ts, e_t_d, e_t_f, e_t_s, e_p_d, e_p_l, e_p_t, e_put_d, e_put_f, e_put_b, e_bx1, e_bx, e_ap2, e_ap1, e_ap0, e_apS, e_ap, e_arg2, e_arg1, e_arg0, e_arg_b, e_arg_d, e_arg_s, e_cl3, e_cl2, e_cl1, e_cl, e_rv_d, e_rv_o, e_rv_b, e_df2, e_df_r, e_df_n, e_df, e_om, e_r_d, e_r_f, e_r_s, e_r_b, e_ff_n, e_ff_c, e_ff_b, e_ff_r, e_fg, e_fr1, e_fr, e_nm, e_im, e_it2, e_it1, e_it, e_i_l, e_i_t, e_lc3, e_lc1, e_lc, e_io1, e_io, e_iv2, e_iv_d, e_iv_o, e_iv, e_ch6, e_ch5, e_ch4t, e_ch4f, e_ch3, e_ch2, e_ch1, e_ch, e_so_d, e_so_f, e_pr3, e_pr2, e_pr1, e_pr, e_sl4, e_sl3, e_sl2, e_sl1, e_sl, e_nop, e_pt1, e_pt, o_sl_l, o_sl_t, e_yes, e_wp, e_wp0, e_wp1, e_re0, e_re1, e_kd_d, e_kd_o, e_kd_b, e_kd_n, o_add_i, o_add_s, o_add_l, o_add_t, o_sub, o_mul, o_div, o_mod, o_pow, o_lt_i, o_lt_s, o_le_i, o_le_s, o_gt_i, o_ge_i, o_ix_l, o_ix_t, o_ixK, o_len_l, o_len_t, o_len_s, o_int_i, o_int_b, o_abs, o_max, o_min, o_lst_l, o_lst_t, o_tup_l, o_tup_t, List.map_cons, List.map_nil, List.append_nil, List.nil_append, List.cons_append, List.length_cons, List.length_nil, List.getElem?_cons_zero, List.getElem?_cons_succ, List.set_cons_zero, List.set_cons_succ, if_true, if_false, List.replicate_zero, List.replicate_succ, List.length_set, Bool.not_true, Bool.not_false, decide_true, decide_false, true_and, and_true, Nat.reduceAdd, Nat.reduceLT, Nat.reduceLeDiff, reduceIte, reduceCtorEq, e1, is_not_true, e2, k, sz, tn]
noncomputable def turnBody : DS := dSeq turnA (dSeq turnB (dSeq turnC turnD))
theorem turn_is (hb : Bx b) (h4 : o4 = some (.own (lotsD (partsL ns))) ∨ o4 = some (.d (.list (lotsD (partsL ns))))) (on : ∀ z ∈ ns, nameL z = true) (od : Ord ns) (short : ns.length ≤ 5) : ∃ o7' o8' o14' b', Bx b' ∧
    turnBody ⟨[s0, s1, some .bx, s3, o4, s5, some (.d (.int t)), o7, o8, o9, o10, o11, o12, o13, o14, none, none], b⟩ = some (.nx, ⟨[s0, s1, some .bx, s3, some (.d (.list (lotsD (partsL ns)))), s5, some (.d (.int t)), o7', some (.d o8'), o9, o10, o11, o12, o13, o14', none, none], b'⟩) := by
  obtain ⟨a, c, b1, hb1, ha, hc, e1⟩ := turn_a (s0 := s0) (s1 := s1) (s3 := s3) (s5 := s5) (o7 := o7) (o8 := o8) (o9 := o9) (o10 := o10) (o11 := o11) (o12 := o12) (o13 := o13) (o14 := o14) (t := t) hb h4 short
  obtain ⟨a', o14', ha', e2⟩ := turn_b (s0 := s0) (s1 := s1) (s3 := s3) (s5 := s5) (o9 := o9) (o10 := o10) (o11 := o11) (o12 := o12) (o13 := o13) (o14 := o14) (t := t) (b := b1) on ha hc short
  have e3 := turn_c (s0 := s0) (s1 := s1) (s3 := s3) (s5 := s5) (o9 := o9) (o10 := o10) (o11 := o11) (o12 := o12) (o13 := o13) (o14 := o14') (t := t) (b := b1) on od ha' hc short
  obtain ⟨b2, hb2, e4⟩ := turn_d (s0 := s0) (s1 := s1) (s3 := s3) (s5 := s5) (o9 := o9) (o10 := o10) (o11 := o11) (o12 := o12) (o13 := o13) (o14 := o14') (t := t) (b := b1) (c := c) hb1 on od ha' short
  refine ⟨some (.d (lotD a')), lotD c, o14', b2, hb2, ?_⟩
  unfold turnBody
  rw [e_seq, e1, e_seq_nx, e_seq, e2, e_seq_nx, e_seq, e3, e_seq_nx]
  exact e4
theorem turn_loop (on : ∀ z ∈ ns, nameL z = true) (od : Ord ns) (short : ns.length ≤ 5) : ∀ (ts : List Int) (o4 o6 o7 o8 o14 : Option SV) (b : List Int), Bx b → (o4 = some (.own (lotsD (partsL ns))) ∨ o4 = some (.d (.list (lotsD (partsL ns))))) → ts ≠ [] → ∃ t o7' o8' o14' b', Bx b' ∧
    forFold (dName 6) turnBody (ts.map PyData.int) ⟨[s0, s1, some .bx, s3, o4, s5, o6, o7, o8, o9, o10, o11, o12, o13, o14, none, none], b⟩ = some (.nx, ⟨[s0, s1, some .bx, s3, some (.d (.list (lotsD (partsL ns)))), s5, some (.d (.int t)), o7', some (.d o8'), o9, o10, o11, o12, o13, o14', none, none], b'⟩)
  | [], _, _, _, _, _, _, _, _, h => absurd rfl h
  | t :: ts, o4, o6, o7, o8, o14, b, hb, h4, _ => by
    obtain ⟨p7, p8, p14, b1, hb1, e1⟩ := turn_is (s0 := s0) (s1 := s1) (s3 := s3) (s5 := s5) (o7 := o7) (o8 := o8) (o9 := o9) (o10 := o10) (o11 := o11) (o12 := o12) (o13 := o13) (o14 := o14) (t := t) hb h4 on od short
    have c6 : 6 < [s0, s1, some SV.bx, s3, o4, s5, o6, o7, o8, o9, o10, o11, o12, o13, o14, none, none].length := by show 6 < 17; decide
    rw [List.map_cons, for_cons]
    by_cases hz : ts = []
    · subst hz
      refine ⟨t, p7, p8, p14, b1, hb1, ?_⟩
      simp only [e_op4, e_op3, e_op2, e_op1, e_op, e_un2, e_un1, e_un, e_seq_nx, e_seq_rt, e_seq_bk, e_seq_ct, e_seq, e_nx, e_bk, e_ct, e_put, e_set1, e_set, e_drop1, e_drop, e_ret1, e_ret, e_retN, e_if_t, e_if_f, e_ifS, e_ifE, e_test1, e_test, e_not1, e_not, e_and_t, e_and_f, e_and, e_or_t, e_or_f, e_or, e_andV_t, e_andV_f, e_andV, e_orV_t, e_orV_f, e_orV, e_notV1, e_notV, e_nil, e_cons2, e_cons1, e_cons, e_tk2, e_tk1, e_tk0, e_tk, e_tup2, e_tup1, e_tup, e_lst2, e_lst1, e_lst, e_da1, e_da0, e_da, e_cb2, e_cb1, e_cb, e_v_d, e_v_o, e_v_b, e_v, e_c, e_h_d, e_h_f, e_h_s, e_h_b, e_at1, e_at, e_lm, e_d_d, e_d_f, e_d_s, e_d_b, e_ts, e_t_d, e_t_f, e_t_s, e_p_d, e_p_l, e_p_t, e_put_d, e_put_f, e_put_b, e_bx1, e_bx, e_ap2, e_ap1, e_ap0, e_apS, e_ap, e_arg2, e_arg1, e_arg0, e_arg_b, e_arg_d, e_arg_s, e_cl3, e_cl2, e_cl1, e_cl, e_rv_d, e_rv_o, e_rv_b, e_df2, e_df_r, e_df_n, e_df, e_om, e_r_d, e_r_f, e_r_s, e_r_b, e_ff_n, e_ff_c, e_ff_b, e_ff_r, e_fg, e_fr1, e_fr, e_nm, e_im, e_it2, e_it1, e_it, e_i_l, e_i_t, e_lc3, e_lc1, e_lc, e_io1, e_io, e_iv2, e_iv_d, e_iv_o, e_iv, e_ch6, e_ch5, e_ch4t, e_ch4f, e_ch3, e_ch2, e_ch1, e_ch, e_so_d, e_so_f, e_pr3, e_pr2, e_pr1, e_pr, e_sl4, e_sl3, e_sl2, e_sl1, e_sl, e_nop, e_pt1, e_pt, o_sl_l, o_sl_t, e_yes, e_wp, e_wp0, e_wp1, e_re0, e_re1, e_kd_d, e_kd_o, e_kd_b, e_kd_n, o_add_i, o_add_s, o_add_l, o_add_t, o_sub, o_mul, o_div, o_mod, o_pow, o_lt_i, o_lt_s, o_le_i, o_le_s, o_gt_i, o_ge_i, o_ix_l, o_ix_t, o_ixK, o_len_l, o_len_t, o_len_s, o_int_i, o_int_b, o_abs, o_max, o_min, o_lst_l, o_lst_t, o_tup_l, o_tup_t, List.map_cons, List.map_nil, List.append_nil, List.nil_append, List.cons_append, List.length_cons, List.length_nil, List.getElem?_cons_zero, List.getElem?_cons_succ, List.set_cons_zero, List.set_cons_succ, if_true, if_false, List.replicate_zero, List.replicate_succ, List.length_set, Bool.not_true, Bool.not_false, decide_true, decide_false, true_and, and_true, Nat.reduceAdd, Nat.reduceLT, Nat.reduceLeDiff, reduceIte, reduceCtorEq, c6, e1]
      rfl
    · obtain ⟨t', q7, q8, q14, b2, hb2, e2⟩ := turn_loop on od short ts (some (.d (.list (lotsD (partsL ns))))) (some (.d (.int t))) p7 (some (.d p8)) p14 b1 hb1 (.inr rfl) hz
      refine ⟨t', q7, q8, q14, b2, hb2, ?_⟩
      simp only [e_op4, e_op3, e_op2, e_op1, e_op, e_un2, e_un1, e_un, e_seq_nx, e_seq_rt, e_seq_bk, e_seq_ct, e_seq, e_nx, e_bk, e_ct, e_put, e_set1, e_set, e_drop1, e_drop, e_ret1, e_ret, e_retN, e_if_t, e_if_f, e_ifS, e_ifE, e_test1, e_test, e_not1, e_not, e_and_t, e_and_f, e_and, e_or_t, e_or_f, e_or, e_andV_t, e_andV_f, e_andV, e_orV_t, e_orV_f, e_orV, e_notV1, e_notV, e_nil, e_cons2, e_cons1, e_cons, e_tk2, e_tk1, e_tk0, e_tk, e_tup2, e_tup1, e_tup, e_lst2, e_lst1, e_lst, e_da1, e_da0, e_da, e_cb2, e_cb1, e_cb, e_v_d, e_v_o, e_v_b, e_v, e_c, e_h_d, e_h_f, e_h_s, e_h_b, e_at1, e_at, e_lm, e_d_d, e_d_f, e_d_s, e_d_b, e_ts, e_t_d, e_t_f, e_t_s, e_p_d, e_p_l, e_p_t, e_put_d, e_put_f, e_put_b, e_bx1, e_bx, e_ap2, e_ap1, e_ap0, e_apS, e_ap, e_arg2, e_arg1, e_arg0, e_arg_b, e_arg_d, e_arg_s, e_cl3, e_cl2, e_cl1, e_cl, e_rv_d, e_rv_o, e_rv_b, e_df2, e_df_r, e_df_n, e_df, e_om, e_r_d, e_r_f, e_r_s, e_r_b, e_ff_n, e_ff_c, e_ff_b, e_ff_r, e_fg, e_fr1, e_fr, e_nm, e_im, e_it2, e_it1, e_it, e_i_l, e_i_t, e_lc3, e_lc1, e_lc, e_io1, e_io, e_iv2, e_iv_d, e_iv_o, e_iv, e_ch6, e_ch5, e_ch4t, e_ch4f, e_ch3, e_ch2, e_ch1, e_ch, e_so_d, e_so_f, e_pr3, e_pr2, e_pr1, e_pr, e_sl4, e_sl3, e_sl2, e_sl1, e_sl, e_nop, e_pt1, e_pt, o_sl_l, o_sl_t, e_yes, e_wp, e_wp0, e_wp1, e_re0, e_re1, e_kd_d, e_kd_o, e_kd_b, e_kd_n, o_add_i, o_add_s, o_add_l, o_add_t, o_sub, o_mul, o_div, o_mod, o_pow, o_lt_i, o_lt_s, o_le_i, o_le_s, o_gt_i, o_ge_i, o_ix_l, o_ix_t, o_ixK, o_len_l, o_len_t, o_len_s, o_int_i, o_int_b, o_abs, o_max, o_min, o_lst_l, o_lst_t, o_tup_l, o_tup_t, List.map_cons, List.map_nil, List.append_nil, List.nil_append, List.cons_append, List.length_cons, List.length_nil, List.getElem?_cons_zero, List.getElem?_cons_succ, List.set_cons_zero, List.set_cons_succ, if_true, if_false, List.replicate_zero, List.replicate_succ, List.length_set, Bool.not_true, Bool.not_false, decide_true, decide_false, true_and, and_true, Nat.reduceAdd, Nat.reduceLT, Nat.reduceLeDiff, reduceIte, reduceCtorEq, c6, e1]
      exact e2
end
end XN

set_option maxRecDepth 100000
set_option maxHeartbeats 4000000
/-! the law: the row of lots, its least and greatest ones -/
namespace XN
open PySem PySem.Spec PyProof.Rows PySem.W L2 Evl XD

theorem pick_fold {all xs : List PyData} {e : List (Option SV)} (h2 : e[2]? = some (some .bx)) (h4 : e[4]? = some (some (.d (.list xs)))) (h6 : e[6]? = some none) (ne : xs ≠ []) (few : xs.length < 100000) : ∀ (its : List PyData) (b : List Int), Bx b → ∃ ys b', Bx b' ∧ (∀ y ∈ ys, y ∈ xs) ∧ ys.length = its.length ∧
    lcFold [6] none all (dName 6) dYes (dCall f__law_pick (dCons (dV 2) (dCons (dV 4) dNil))) its ⟨e, b⟩ = some (ys, ⟨e, b'⟩)
  | [], b, hb => by
    refine ⟨[], b, hb, fun y h => (by cases h), rfl, ?_⟩
    unfold lcFold
    rw [if_pos chk_none]
  | x :: its, b, hb => by
    have l6 := (List.getElem?_eq_some_iff.mp h6).1
    obtain ⟨r, b1, e1, m1, hb1⟩ := pick_is hb ne few
    obtain ⟨ys, b2, hb2, m2, hl, e2⟩ := pick_fold (all := all) h2 h4 h6 ne few its b1 hb1
    refine ⟨r :: ys, b2, hb2, fun y hy => ?_, by rw [List.length_cons, List.length_cons, hl], ?_⟩
    · rcases List.mem_cons.mp hy with rfl | hy
      · exact m1
      · exact m2 y hy
    · have g2 : (e.set 6 (some (.d x)))[2]? = some (some .bx) := (List.getElem?_set_ne (by decide)).trans h2
      have g4 : (e.set 6 (some (.d x)))[4]? = some (some (.d (.list xs))) := (List.getElem?_set_ne (by decide)).trans h4
      have h1 : dName 6 x ⟨e, b⟩ = some ⟨e.set 6 (some (.d x)), b⟩ := by
        unfold dName
        rw [if_pos l6]
      have c1 : dCall f__law_pick (dCons (dV 2) (dCons (dV 4) dNil)) ⟨e.set 6 (some (.d x)), b⟩ = some (.d r, ⟨e.set 6 (some (.d x)), b1⟩) := by
        simp only [e_op4, e_op3, e_op2, e_op1, e_op, e_un2, e_un1, e_un, e_seq_nx, e_seq_rt, e_seq_bk, e_seq_ct, e_seq, e_nx, e_bk, e_ct, e_put, e_set1, e_set, e_drop1, e_drop, e_ret1, e_ret, e_retN, e_if_t, e_if_f, e_ifS, e_ifE, e_test1, e_test, e_not1, e_not, e_and_t, e_and_f, e_and, e_or_t, e_or_f, e_or, e_andV_t, e_andV_f, e_andV, e_orV_t, e_orV_f, e_orV, e_notV1, e_notV, e_nil, e_cons2, e_cons1, e_cons, e_tk2, e_tk1, e_tk0, e_tk, e_tup2, e_tup1, e_tup, e_lst2, e_lst1, e_lst, e_da1, e_da0, e_da, e_cb2, e_cb1, e_cb, e_v_d, e_v_o, e_v_b, e_v, e_c, e_h_d, e_h_f, e_h_s, e_h_b, e_at1, e_at, e_lm, e_d_d, e_d_f, e_d_s, e_d_b, e_ts, e_t_d, e_t_f, e_t_s, e_p_d, e_p_l, e_p_t, e_put_d, e_put_f, e_put_b, e_bx1, e_bx, e_ap2, e_ap1, e_ap0, e_apS, e_ap, e_arg2, e_arg1, e_arg0, e_arg_b, e_arg_d, e_arg_s, e_cl3, e_cl2, e_cl1, e_cl, e_rv_d, e_rv_o, e_rv_b, e_df2, e_df_r, e_df_n, e_df, e_om, e_r_d, e_r_f, e_r_s, e_r_b, e_ff_n, e_ff_c, e_ff_b, e_ff_r, e_fg, e_fr1, e_fr, e_nm, e_im, e_it2, e_it1, e_it, e_i_l, e_i_t, e_lc3, e_lc1, e_lc, e_io1, e_io, e_iv2, e_iv_d, e_iv_o, e_iv, e_ch6, e_ch5, e_ch4t, e_ch4f, e_ch3, e_ch2, e_ch1, e_ch, e_so_d, e_so_f, e_pr3, e_pr2, e_pr1, e_pr, e_sl4, e_sl3, e_sl2, e_sl1, e_sl, e_nop, e_pt1, e_pt, o_sl_l, o_sl_t, e_yes, e_wp, e_wp0, e_wp1, e_re0, e_re1, e_kd_d, e_kd_o, e_kd_b, e_kd_n, o_add_i, o_add_s, o_add_l, o_add_t, o_sub, o_mul, o_div, o_mod, o_pow, o_lt_i, o_lt_s, o_le_i, o_le_s, o_gt_i, o_ge_i, o_ix_l, o_ix_t, o_ixK, o_len_l, o_len_t, o_len_s, o_int_i, o_int_b, o_abs, o_max, o_min, o_lst_l, o_lst_t, o_tup_l, o_tup_t, List.map_cons, List.map_nil, List.append_nil, List.nil_append, List.cons_append, List.length_cons, List.length_nil, List.getElem?_cons_zero, List.getElem?_cons_succ, List.set_cons_zero, List.set_cons_succ, if_true, if_false, List.replicate_zero, List.replicate_succ, List.length_set, Bool.not_true, Bool.not_false, decide_true, decide_false, true_and, and_true, Nat.reduceAdd, Nat.reduceLT, Nat.reduceLeDiff, reduceIte, reduceCtorEq, g2, g4, e1]
      have w : (SS.mk (e.set 6 (some (.d x))) b1).wipe [6] = ⟨e, b1⟩ := by
        show (⟨wipeE (e.set 6 (some (.d x))) [6], b1⟩ : SS) = _
        rw [show wipeE (e.set 6 (some (.d x))) [6] = (e.set 6 (some (.d x))).set 6 none from rfl, set_back h6]
      unfold lcFold
      rw [if_pos chk_none, h1, Option.bind_some, e_yes, Option.bind_some, if_pos rfl, c1]
      show ((lcFold [6] none all (dName 6) dYes _ its ((SS.mk (e.set 6 (some (.d x))) b1).wipe [6])).map _) = _
      rw [w, e2]
      rfl
theorem lots_of : ∀ {ys : List PyData} {ls : List (List Str)}, (∀ y ∈ ys, y ∈ lotsD ls) → ∃ row, ys = lotsD row ∧ ∀ l ∈ row, l ∈ ls
  | [], ls, _ => ⟨[], rfl, fun l h => (by cases h)⟩
  | y :: ys, ls, h => by
    obtain ⟨l, hl, e⟩ := mem_lotsD (h y (List.mem_cons_self ..))
    obtain ⟨row, e2, h2⟩ := lots_of fun z m => h z (List.mem_cons_of_mem _ m)
    refine ⟨l :: row, by rw [e, e2]; rfl, fun m hm => ?_⟩
    rcases List.mem_cons.mp hm with rfl | hm
    · exact hl
    · exact h2 m hm
theorem cut_lots (l : List (List Str)) (lo hi : Option Int) : ∃ m : List (List Str), cutD (lotsD l) lo hi = lotsD m ∧ (∀ z ∈ m, z ∈ l) ∧ m.length ≤ l.length := by
  refine ⟨(l.drop (HT.sIx l.length 0 lo)).take (HT.sIx l.length l.length hi - HT.sIx l.length 0 lo), ?_, fun z m => List.mem_of_mem_drop (List.mem_of_mem_take m), ?_⟩
  · unfold cutD lotsD
    rw [List.length_map, List.map_take, List.map_drop]
  · rw [List.length_take, List.length_drop]
    omega
theorem lots_add {x y : List (List Str)} (h : x.length + y.length < 1000) : opAdd (.list (lotsD x)) (.list (lotsD y)) = some (.l (lotsD (x ++ y))) := by
  show (if (x.map lotD).length + (y.map lotD).length ≤ 100000 then some (PV.l (x.map lotD ++ y.map lotD)) else none) = _
  rw [if_pos (by rw [List.length_map, List.length_map]; omega), ← List.map_append]
noncomputable def rowA : DS := dSet 9 (dLc [6] (dIo (dRng1 (dCons (dCall f__law_take (dCons (dV 2) (dCons (dC (.int 7)) dNil))) dNil))) (dName 6) dYes (dCall f__law_pick (dCons (dV 2) (dCons (dV 4) dNil))))
noncomputable def rowB : DS := dSet 9 (dOp opAdd (dV 9) (dSl (dV 9) dNoP (dPart (dCall f__law_take (dCons (dV 2) (dCons (dC (.int 3)) dNil))))))
noncomputable def rowC : DS := dPar 10 11 (dCB opList (dCons (dV 9) dNil)) (dLc [16] (dItV [16] 4) (dName 16) (dTest (dOp opIn (dV 16) (dV 9))) (dV 16))
noncomputable def rowD : DS := dSet 12 (dLc [16] (dItV [16] 11) (dName 16) (dTest (dOp opEq (dCB opLen (dCons (dLc [8] (dItV [8] 11) (dName 8) (dTest (dCall f__law_inside (dCons (dV 8) (dCons (dV 16) dNil)))) (dV 8)) dNil)) (dC (.int 0)))) (dV 16))
noncomputable def rowE : DS := dSet 13 (dLc [16] (dItV [16] 11) (dName 16) (dTest (dOp opEq (dCB opLen (dCons (dLc [8] (dItV [8] 11) (dName 8) (dTest (dCall f__law_inside (dCons (dV 16) (dCons (dV 8) dNil)))) (dV 8)) dNil)) (dC (.int 0)))) (dV 16))
section
variable {ns : List Str} {s0 s1 s3 s5 o7 o8 o9 o10 o11 o12 o13 o14 : Option SV} {t : Int} {d8 : PyData} {b : List Int}
theorem row_a (hb : Bx b) (short : ns.length ≤ 5) : ∃ row b', Bx b' ∧ (∀ l ∈ row, l.Sublist ns) ∧ row.length ≤ 6 ∧
    rowA ⟨[s0, s1, some .bx, s3, some (.d (.list (lotsD (partsL ns)))), s5, some (.d (.int t)), o7, o8, o9, o10, o11, o12, o13, o14, none, none], b⟩ = some (.nx, ⟨[s0, s1, some .bx, s3, some (.d (.list (lotsD (partsL ns)))), s5, some (.d (.int t)), o7, o8, some (.own (lotsD row)), o10, o11, o12, o13, o14, none, none], b'⟩) := by
  have cnt : (lotsD (partsL ns)).length = 2 ^ ns.length := by
    show ((partsL ns).map lotD).length = _
    rw [List.length_map, parts_count]
  have p2 : 0 < 2 ^ ns.length := Nat.pow_pos (by decide)
  have p3 : 2 ^ ns.length ≤ 32 := Nat.le_trans (Nat.pow_le_pow_right (by decide) short) (by decide)
  have ne : lotsD (partsL ns) ≠ [] := fun z => by
    rw [z] at cnt
    simp at cnt
    omega
  obtain ⟨r, b1, e1, r0, r1, hb1⟩ := take_is (n := 7) hb (by decide) (by decide)
  obtain ⟨ys, b2, hb2, m2, hl, e2⟩ := pick_fold (all := rngI 0 r.toNat) (e := [s0, s1, some .bx, s3, some (.d (.list (lotsD (partsL ns)))), s5, none, o7, o8, o9, o10, o11, o12, o13, o14, none, none]) rfl rfl rfl ne (by omega) (rngI 0 r.toNat) b1 hb1
  have lr : (rngI 0 r.toNat).length = r.toNat := by
    unfold rngI
    rw [List.length_map, List.length_range]
  obtain ⟨row, rfl, hr⟩ := lots_of m2
  have lrow : row.length ≤ 6 := by
    have : (lotsD row).length = row.length := List.length_map _
    omega
  refine ⟨row, b2, hb2, fun l m => mem_parts.mp (hr l m), lrow, ?_⟩
  have rg : dRng1 (dCons (dCall f__law_take (dCons (dV 2) (dCons (dC (.int 7)) dNil))) dNil) ⟨[s0, s1, some .bx, s3, some (.d (.list (lotsD (partsL ns)))), s5, some (.d (.int t)), o7, o8, o9, o10, o11, o12, o13, o14, none, none], b⟩ = some (rngI 0 r.toNat, ⟨[s0, s1, some .bx, s3, some (.d (.list (lotsD (partsL ns)))), s5, some (.d (.int t)), o7, o8, o9, o10, o11, o12, o13, o14, none, none], b1⟩) :=
    rng1_eq (by simp only [e_op4, e_op3, e_op2, e_op1, e_op, e_un2, e_un1, e_un, e_seq_nx, e_seq_rt, e_seq_bk, e_seq_ct, e_seq, e_nx, e_bk, e_ct, e_put, e_set1, e_set, e_drop1, e_drop, e_ret1, e_ret, e_retN, e_if_t, e_if_f, e_ifS, e_ifE, e_test1, e_test, e_not1, e_not, e_and_t, e_and_f, e_and, e_or_t, e_or_f, e_or, e_andV_t, e_andV_f, e_andV, e_orV_t, e_orV_f, e_orV, e_notV1, e_notV, e_nil, e_cons2, e_cons1, e_cons, e_tk2, e_tk1, e_tk0, e_tk, e_tup2, e_tup1, e_tup, e_lst2, e_lst1, e_lst, e_da1, e_da0, e_da, e_cb2, e_cb1, e_cb, e_v_d, e_v_o, e_v_b, e_v, e_c, e_h_d, e_h_f, e_h_s, e_h_b, e_at1, e_at, e_lm, e_d_d, e_d_f, e_d_s, e_d_b, e_ts, e_t_d, e_t_f, e_t_s, e_p_d, e_p_l, e_p_t, e_put_d, e_put_f, e_put_b, e_bx1, e_bx, e_ap2, e_ap1, e_ap0, e_apS, e_ap, e_arg2, e_arg1, e_arg0, e_arg_b, e_arg_d, e_arg_s, e_cl3, e_cl2, e_cl1, e_cl, e_rv_d, e_rv_o, e_rv_b, e_df2, e_df_r, e_df_n, e_df, e_om, e_r_d, e_r_f, e_r_s, e_r_b, e_ff_n, e_ff_c, e_ff_b, e_ff_r, e_fg, e_fr1, e_fr, e_nm, e_im, e_it2, e_it1, e_it, e_i_l, e_i_t, e_lc3, e_lc1, e_lc, e_io1, e_io, e_iv2, e_iv_d, e_iv_o, e_iv, e_ch6, e_ch5, e_ch4t, e_ch4f, e_ch3, e_ch2, e_ch1, e_ch, e_so_d, e_so_f, e_pr3, e_pr2, e_pr1, e_pr, e_sl4, e_sl3, e_sl2, e_sl1, e_sl, e_nop, e_pt1, e_pt, o_sl_l, o_sl_t, e_yes, e_wp, e_wp0, e_wp1, e_re0, e_re1, e_kd_d, e_kd_o, e_kd_b, e_kd_n, o_add_i, o_add_s, o_add_l, o_add_t, o_sub, o_mul, o_div, o_mod, o_pow, o_lt_i, o_lt_s, o_le_i, o_le_s, o_gt_i, o_ge_i, o_ix_l, o_ix_t, o_ixK, o_len_l, o_len_t, o_len_s, o_int_i, o_int_b, o_abs, o_max, o_min, o_lst_l, o_lst_t, o_tup_l, o_tup_t, List.map_cons, List.map_nil, List.append_nil, List.nil_append, List.cons_append, List.length_cons, List.length_nil, List.getElem?_cons_zero, List.getElem?_cons_succ, List.set_cons_zero, List.set_cons_succ, if_true, if_false, List.replicate_zero, List.replicate_succ, List.length_set, Bool.not_true, Bool.not_false, decide_true, decide_false, true_and, and_true, Nat.reduceAdd, Nat.reduceLT, Nat.reduceLeDiff, reduceIte, reduceCtorEq, e1]) (by omega)
  have sz : (lotsD row).length < 100000 := by
    have : (lotsD row).length = row.length := List.length_map _
    omega
  unfold rowA
  simp only [e_op4, e_op3, e_op2, e_op1, e_op, e_un2, e_un1, e_un, e_seq_nx, e_seq_rt, e_seq_bk, e_seq_ct, e_seq, e_nx, e_bk, e_ct, e_put, e_set1, e_set, e_drop1, e_drop, e_ret1, e_ret, e_retN, e_if_t, e_if_f, e_ifS, e_ifE, e_test1, e_test, e_not1, e_not, e_and_t, e_and_f, e_and, e_or_t, e_or_f, e_or, e_andV_t, e_andV_f, e_andV, e_orV_t, e_orV_f, e_orV, e_notV1, e_notV, e_nil, e_cons2, e_cons1, e_cons, e_tk2, e_tk1, e_tk0, e_tk, e_tup2, e_tup1, e_tup, e_lst2, e_lst1, e_lst, e_da1, e_da0, e_da, e_cb2, e_cb1, e_cb, e_v_d, e_v_o, e_v_b, e_v, e_c, e_h_d, e_h_f, e_h_s, e_h_b, e_at1, e_at, e_lm, e_d_d, e_d_f, e_d_s, e_d_b, e_ts, e_t_d, e_t_f, e_t_s, e_p_d, e_p_l, e_p_t, e_put_d, e_put_f, e_put_b, e_bx1, e_bx, e_ap2, e_ap1, e_ap0, e_apS, e_ap, e_arg2, e_arg1, e_arg0, e_arg_b, e_arg_d, e_arg_s, e_cl3, e_cl2, e_cl1, e_cl, e_rv_d, e_rv_o, e_rv_b, e_df2, e_df_r, e_df_n, e_df, e_om, e_r_d, e_r_f, e_r_s, e_r_b, e_ff_n, e_ff_c, e_ff_b, e_ff_r, e_fg, e_fr1, e_fr, e_nm, e_im, e_it2, e_it1, e_it, e_i_l, e_i_t, e_lc3, e_lc1, e_lc, e_io1, e_io, e_iv2, e_iv_d, e_iv_o, e_iv, e_ch6, e_ch5, e_ch4t, e_ch4f, e_ch3, e_ch2, e_ch1, e_ch, e_so_d, e_so_f, e_pr3, e_pr2, e_pr1, e_pr, e_sl4, e_sl3, e_sl2, e_sl1, e_sl, e_nop, e_pt1, e_pt, o_sl_l, o_sl_t, e_yes, e_wp, e_wp0, e_wp1, e_re0, e_re1, e_kd_d, e_kd_o, e_kd_b, e_kd_n, o_add_i, o_add_s, o_add_l, o_add_t, o_sub, o_mul, o_div, o_mod, o_pow, o_lt_i, o_lt_s, o_le_i, o_le_s, o_gt_i, o_ge_i, o_ix_l, o_ix_t, o_ixK, o_len_l, o_len_t, o_len_s, o_int_i, o_int_b, o_abs, o_max, o_min, o_lst_l, o_lst_t, o_tup_l, o_tup_t, List.map_cons, List.map_nil, List.append_nil, List.nil_append, List.cons_append, List.length_cons, List.length_nil, List.getElem?_cons_zero, List.getElem?_cons_succ, List.set_cons_zero, List.set_cons_succ, if_true, if_false, List.replicate_zero, List.replicate_succ, List.length_set, Bool.not_true, Bool.not_false, decide_true, decide_false, true_and, and_true, Nat.reduceAdd, Nat.reduceLT, Nat.reduceLeDiff, reduceIte, reduceCtorEq, rg, e2, sz]
theorem row_b {row : List (List Str)} (hb : Bx b) (few : row.length ≤ 6) (hr : ∀ l ∈ row, l.Sublist ns) : ∃ row' b', Bx b' ∧ (∀ l ∈ row', l.Sublist ns) ∧ row'.length ≤ 12 ∧
    rowB ⟨[s0, s1, some .bx, s3, some (.d (.list (lotsD (partsL ns)))), s5, some (.d (.int t)), o7, o8, some (.own (lotsD row)), o10, o11, o12, o13, o14, none, none], b⟩ = some (.nx, ⟨[s0, s1, some .bx, s3, some (.d (.list (lotsD (partsL ns)))), s5, some (.d (.int t)), o7, o8, some (.own (lotsD row')), o10, o11, o12, o13, o14, none, none], b'⟩) := by
  obtain ⟨r, b1, e1, r0, r1, hb1⟩ := take_is (n := 3) hb (by decide) (by decide)
  obtain ⟨m, e2, hm, lm⟩ := cut_lots row none (some r)
  have ad := lots_add (x := row) (y := m) (by omega)
  refine ⟨row ++ m, b1, hb1, fun l h => ?_, by rw [List.length_append]; omega, ?_⟩
  · rcases List.mem_append.mp h with h | h
    · exact hr l h
    · exact hr l (hm l h)
  · unfold rowB
    simp only [e_op4, e_op3, e_op2, e_op1, e_op, e_un2, e_un1, e_un, e_seq_nx, e_seq_rt, e_seq_bk, e_seq_ct, e_seq, e_nx, e_bk, e_ct, e_put, e_set1, e_set, e_drop1, e_drop, e_ret1, e_ret, e_retN, e_if_t, e_if_f, e_ifS, e_ifE, e_test1, e_test, e_not1, e_not, e_and_t, e_and_f, e_and, e_or_t, e_or_f, e_or, e_andV_t, e_andV_f, e_andV, e_orV_t, e_orV_f, e_orV, e_notV1, e_notV, e_nil, e_cons2, e_cons1, e_cons, e_tk2, e_tk1, e_tk0, e_tk, e_tup2, e_tup1, e_tup, e_lst2, e_lst1, e_lst, e_da1, e_da0, e_da, e_cb2, e_cb1, e_cb, e_v_d, e_v_o, e_v_b, e_v, e_c, e_h_d, e_h_f, e_h_s, e_h_b, e_at1, e_at, e_lm, e_d_d, e_d_f, e_d_s, e_d_b, e_ts, e_t_d, e_t_f, e_t_s, e_p_d, e_p_l, e_p_t, e_put_d, e_put_f, e_put_b, e_bx1, e_bx, e_ap2, e_ap1, e_ap0, e_apS, e_ap, e_arg2, e_arg1, e_arg0, e_arg_b, e_arg_d, e_arg_s, e_cl3, e_cl2, e_cl1, e_cl, e_rv_d, e_rv_o, e_rv_b, e_df2, e_df_r, e_df_n, e_df, e_om, e_r_d, e_r_f, e_r_s, e_r_b, e_ff_n, e_ff_c, e_ff_b, e_ff_r, e_fg, e_fr1, e_fr, e_nm, e_im, e_it2, e_it1, e_it, e_i_l, e_i_t, e_lc3, e_lc1, e_lc, e_io1, e_io, e_iv2, e_iv_d, e_iv_o, e_iv, e_ch6, e_ch5, e_ch4t, e_ch4f, e_ch3, e_ch2, e_ch1, e_ch, e_so_d, e_so_f, e_pr3, e_pr2, e_pr1, e_pr, e_sl4, e_sl3, e_sl2, e_sl1, e_sl, e_nop, e_pt1, e_pt, o_sl_l, o_sl_t, e_yes, e_wp, e_wp0, e_wp1, e_re0, e_re1, e_kd_d, e_kd_o, e_kd_b, e_kd_n, o_add_i, o_add_s, o_add_l, o_add_t, o_sub, o_mul, o_div, o_mod, o_pow, o_lt_i, o_lt_s, o_le_i, o_le_s, o_gt_i, o_ge_i, o_ix_l, o_ix_t, o_ixK, o_len_l, o_len_t, o_len_s, o_int_i, o_int_b, o_abs, o_max, o_min, o_lst_l, o_lst_t, o_tup_l, o_tup_t, List.map_cons, List.map_nil, List.append_nil, List.nil_append, List.cons_append, List.length_cons, List.length_nil, List.getElem?_cons_zero, List.getElem?_cons_succ, List.set_cons_zero, List.set_cons_succ, if_true, if_false, List.replicate_zero, List.replicate_succ, List.length_set, Bool.not_true, Bool.not_false, decide_true, decide_false, true_and, and_true, Nat.reduceAdd, Nat.reduceLT, Nat.reduceLeDiff, reduceIte, reduceCtorEq, e1, e2, ad]
theorem few_lots {l : List (List Str)} (h : l.length ≤ 1000) : (lotsD l).length < 100000 := by
  have : (lotsD l).length = l.length := List.length_map _
  omega
theorem some_few {row : List (List Str)} (short : ns.length ≤ 5) : (someOf ns row).length ≤ 32 := by
  refine Nat.le_trans (List.length_filter_le _ _) ?_
  rw [parts_count]
  exact Nat.le_trans (Nat.pow_le_pow_right (by decide) short) (by decide)
theorem row_c {row : List (List Str)} (on : ∀ z ∈ ns, nameL z = true) (hr : ∀ l ∈ row, l.Sublist ns) (short : ns.length ≤ 5) :
    rowC ⟨[s0, s1, some .bx, s3, some (.d (.list (lotsD (partsL ns)))), s5, some (.d (.int t)), o7, o8, some (.own (lotsD row)), o10, o11, o12, o13, o14, none, none], b⟩ = some (.nx, ⟨[s0, s1, some .bx, s3, some (.d (.list (lotsD (partsL ns)))), s5, some (.d (.int t)), o7, o8, some (.own (lotsD row)), some (.own (lotsD row)), some (.own (lotsD (someOf ns row))), o12, o13, o14, none, none], b⟩) := by
  have ok : ∀ {l : List Str}, l.Sublist ns → Oks l := fun s z m => name_ok (on z (s.subset m))
  have key := lc_map (vs := [16]) (on := none) (all := lotsD (partsL ns)) (i := 16) (c := dTest (dOp opIn (dV 16) (dV 9))) (f := dV 16) (e := [s0, s1, some .bx, s3, some (.d (.list (lotsD (partsL ns)))), s5, some (.d (.int t)), o7, o8, some (.own (lotsD row)), o10, o11, o12, o13, o14, none, none]) (b := b) (fun x => decide (strsOf x ∈ row)) id chk_none (by show 16 < 17; decide) (fun x => rfl) (lotsD (partsL ns)) (fun x hx => by
      obtain ⟨l, hl, rfl⟩ := mem_lotsD hx
      have i1 := in_lots (ok (mem_parts.mp hl)) (fun m hm => ok (hr m hm))
      rw [strsOf_lot]
      simp only [e_op4, e_op3, e_op2, e_op1, e_op, e_un2, e_un1, e_un, e_seq_nx, e_seq_rt, e_seq_bk, e_seq_ct, e_seq, e_nx, e_bk, e_ct, e_put, e_set1, e_set, e_drop1, e_drop, e_ret1, e_ret, e_retN, e_if_t, e_if_f, e_ifS, e_ifE, e_test1, e_test, e_not1, e_not, e_and_t, e_and_f, e_and, e_or_t, e_or_f, e_or, e_andV_t, e_andV_f, e_andV, e_orV_t, e_orV_f, e_orV, e_notV1, e_notV, e_nil, e_cons2, e_cons1, e_cons, e_tk2, e_tk1, e_tk0, e_tk, e_tup2, e_tup1, e_tup, e_lst2, e_lst1, e_lst, e_da1, e_da0, e_da, e_cb2, e_cb1, e_cb, e_v_d, e_v_o, e_v_b, e_v, e_c, e_h_d, e_h_f, e_h_s, e_h_b, e_at1, e_at, e_lm, e_d_d, e_d_f, e_d_s, e_d_b, e_ts, e_t_d, e_t_f, e_t_s, e_p_d, e_p_l, e_p_t, e_put_d, e_put_f, e_put_b, e_bx1, e_bx, e_ap2, e_ap1, e_ap0, e_apS, e_ap, e_arg2, e_arg1, e_arg0, e_arg_b, e_arg_d, e_arg_s, e_cl3, e_cl2, e_cl1, e_cl, e_rv_d, e_rv_o, e_rv_b, e_df2, e_df_r, e_df_n, e_df, e_om, e_r_d, e_r_f, e_r_s, e_r_b, e_ff_n, e_ff_c, e_ff_b, e_ff_r, e_fg, e_fr1, e_fr, e_nm, e_im, e_it2, e_it1, e_it, e_i_l, e_i_t, e_lc3, e_lc1, e_lc, e_io1, e_io, e_iv2, e_iv_d, e_iv_o, e_iv, e_ch6, e_ch5, e_ch4t, e_ch4f, e_ch3, e_ch2, e_ch1, e_ch, e_so_d, e_so_f, e_pr3, e_pr2, e_pr1, e_pr, e_sl4, e_sl3, e_sl2, e_sl1, e_sl, e_nop, e_pt1, e_pt, o_sl_l, o_sl_t, e_yes, e_wp, e_wp0, e_wp1, e_re0, e_re1, e_kd_d, e_kd_o, e_kd_b, e_kd_n, o_add_i, o_add_s, o_add_l, o_add_t, o_sub, o_mul, o_div, o_mod, o_pow, o_lt_i, o_lt_s, o_le_i, o_le_s, o_gt_i, o_ge_i, o_ix_l, o_ix_t, o_ixK, o_len_l, o_len_t, o_len_s, o_int_i, o_int_b, o_abs, o_max, o_min, o_lst_l, o_lst_t, o_tup_l, o_tup_t, List.map_cons, List.map_nil, List.append_nil, List.nil_append, List.cons_append, List.length_cons, List.length_nil, List.getElem?_cons_zero, List.getElem?_cons_succ, List.set_cons_zero, List.set_cons_succ, if_true, if_false, List.replicate_zero, List.replicate_succ, List.length_set, Bool.not_true, Bool.not_false, decide_true, decide_false, true_and, and_true, Nat.reduceAdd, Nat.reduceLT, Nat.reduceLeDiff, reduceIte, reduceCtorEq, i1]) fun x hx _ => ⟨.d x, rfl, rfl⟩
  rw [List.map_id, filter_lots] at key
  have e : ((partsL ns).filter fun z => decide (strsOf (lotD z) ∈ row)) = someOf ns row := List.filter_congr fun l _ => by rw [strsOf_lot]
  rw [e] at key
  have sz := few_lots (l := someOf ns row) (Nat.le_trans (some_few short) (by decide))
  have c16 : ¬ (4 ∈ [16]) := by decide
  unfold rowC
  simp only [e_op4, e_op3, e_op2, e_op1, e_op, e_un2, e_un1, e_un, e_seq_nx, e_seq_rt, e_seq_bk, e_seq_ct, e_seq, e_nx, e_bk, e_ct, e_put, e_set1, e_set, e_drop1, e_drop, e_ret1, e_ret, e_retN, e_if_t, e_if_f, e_ifS, e_ifE, e_test1, e_test, e_not1, e_not, e_and_t, e_and_f, e_and, e_or_t, e_or_f, e_or, e_andV_t, e_andV_f, e_andV, e_orV_t, e_orV_f, e_orV, e_notV1, e_notV, e_nil, e_cons2, e_cons1, e_cons, e_tk2, e_tk1, e_tk0, e_tk, e_tup2, e_tup1, e_tup, e_lst2, e_lst1, e_lst, e_da1, e_da0, e_da, e_cb2, e_cb1, e_cb, e_v_d, e_v_o, e_v_b, e_v, e_c, e_h_d, e_h_f, e_h_s, e_h_b, e_at1, e_at, e_lm, e_d_d, e_d_f, e_d_s, e_d_b, e_ts, e_t_d, e_t_f, e_t_s, e_p_d, e_p_l, e_p_t, e_put_d, e_put_f, e_put_b, e_bx1, e_bx, e_ap2, e_ap1, e_ap0, e_apS, e_ap, e_arg2, e_arg1, e_arg0, e_arg_b, e_arg_d, e_arg_s, e_cl3, e_cl2, e_cl1, e_cl, e_rv_d, e_rv_o, e_rv_b, e_df2, e_df_r, e_df_n, e_df, e_om, e_r_d, e_r_f, e_r_s, e_r_b, e_ff_n, e_ff_c, e_ff_b, e_ff_r, e_fg, e_fr1, e_fr, e_nm, e_im, e_it2, e_it1, e_it, e_i_l, e_i_t, e_lc3, e_lc1, e_lc, e_io1, e_io, e_iv2, e_iv_d, e_iv_o, e_iv, e_ch6, e_ch5, e_ch4t, e_ch4f, e_ch3, e_ch2, e_ch1, e_ch, e_so_d, e_so_f, e_pr3, e_pr2, e_pr1, e_pr, e_sl4, e_sl3, e_sl2, e_sl1, e_sl, e_nop, e_pt1, e_pt, o_sl_l, o_sl_t, e_yes, e_wp, e_wp0, e_wp1, e_re0, e_re1, e_kd_d, e_kd_o, e_kd_b, e_kd_n, o_add_i, o_add_s, o_add_l, o_add_t, o_sub, o_mul, o_div, o_mod, o_pow, o_lt_i, o_lt_s, o_le_i, o_le_s, o_gt_i, o_ge_i, o_ix_l, o_ix_t, o_ixK, o_len_l, o_len_t, o_len_s, o_int_i, o_int_b, o_abs, o_max, o_min, o_lst_l, o_lst_t, o_tup_l, o_tup_t, List.map_cons, List.map_nil, List.append_nil, List.nil_append, List.cons_append, List.length_cons, List.length_nil, List.getElem?_cons_zero, List.getElem?_cons_succ, List.set_cons_zero, List.set_cons_succ, if_true, if_false, List.replicate_zero, List.replicate_succ, List.length_set, Bool.not_true, Bool.not_false, decide_true, decide_false, true_and, and_true, Nat.reduceAdd, Nat.reduceLT, Nat.reduceLeDiff, reduceIte, reduceCtorEq, items_lot, key, sz, c16, ne_eq, Nat.reduceEqDiff, not_false_eq_true]
theorem len_zero (l : List (List Str)) : ((((lotsD l).length : Nat) : Int) == 0) = decide (l.length = 0) := by
  have : (lotsD l).length = l.length := List.length_map _
  rw [this]
  by_cases h : l.length = 0
  · rw [h]; rfl
  · rw [decide_eq_false h]
    exact beq_eq_false_iff_ne.mpr (by omega)
theorem in_fold {p : PyData → Bool} {e : List (Option SV)} {some_ : List (List Str)} {c : DT} (hs : (SS.mk e b).at 11 = some (lotsD some_)) (h8 : e[8]? = some none)
    (hc : ∀ o ∈ some_, c ⟨e.set 8 (some (.d (lotD o))), b⟩ = some (p (lotD o), ⟨e.set 8 (some (.d (lotD o))), b⟩)) :
    lcFold [8] (some 11) (lotsD some_) (dName 8) c (dV 8) (lotsD some_) ⟨e, b⟩ = some (lotsD (some_.filter fun o => p (lotD o)), ⟨e, b⟩) := by
  have l8 := (List.getElem?_eq_some_iff.mp h8).1
  have key := lc_map (vs := [8]) (on := some 11) (all := lotsD some_) (i := 8) (c := c) (f := dV 8) (e := e) (b := b) p id (fun i h => by cases h; exact hs) l8 (fun x => set_back h8 _) (lotsD some_) (fun x hx => by
      obtain ⟨l, hl, rfl⟩ := mem_lotsD hx
      exact hc l hl) fun x hx _ => by
      have g8 : (e.set 8 (some (.d x)))[8]? = some (some (.d x)) := List.getElem?_set_self l8
      refine ⟨.d x, ?_, rfl⟩
      simp only [e_op4, e_op3, e_op2, e_op1, e_op, e_un2, e_un1, e_un, e_seq_nx, e_seq_rt, e_seq_bk, e_seq_ct, e_seq, e_nx, e_bk, e_ct, e_put, e_set1, e_set, e_drop1, e_drop, e_ret1, e_ret, e_retN, e_if_t, e_if_f, e_ifS, e_ifE, e_test1, e_test, e_not1, e_not, e_and_t, e_and_f, e_and, e_or_t, e_or_f, e_or, e_andV_t, e_andV_f, e_andV, e_orV_t, e_orV_f, e_orV, e_notV1, e_notV, e_nil, e_cons2, e_cons1, e_cons, e_tk2, e_tk1, e_tk0, e_tk, e_tup2, e_tup1, e_tup, e_lst2, e_lst1, e_lst, e_da1, e_da0, e_da, e_cb2, e_cb1, e_cb, e_v_d, e_v_o, e_v_b, e_v, e_c, e_h_d, e_h_f, e_h_s, e_h_b, e_at1, e_at, e_lm, e_d_d, e_d_f, e_d_s, e_d_b, e_ts, e_t_d, e_t_f, e_t_s, e_p_d, e_p_l, e_p_t, e_put_d, e_put_f, e_put_b, e_bx1, e_bx, e_ap2, e_ap1, e_ap0, e_apS, e_ap, e_arg2, e_arg1, e_arg0, e_arg_b, e_arg_d, e_arg_s, e_cl3, e_cl2, e_cl1, e_cl, e_rv_d, e_rv_o, e_rv_b, e_df2, e_df_r, e_df_n, e_df, e_om, e_r_d, e_r_f, e_r_s, e_r_b, e_ff_n, e_ff_c, e_ff_b, e_ff_r, e_fg, e_fr1, e_fr, e_nm, e_im, e_it2, e_it1, e_it, e_i_l, e_i_t, e_lc3, e_lc1, e_lc, e_io1, e_io, e_iv2, e_iv_d, e_iv_o, e_iv, e_ch6, e_ch5, e_ch4t, e_ch4f, e_ch3, e_ch2, e_ch1, e_ch, e_so_d, e_so_f, e_pr3, e_pr2, e_pr1, e_pr, e_sl4, e_sl3, e_sl2, e_sl1, e_sl, e_nop, e_pt1, e_pt, o_sl_l, o_sl_t, e_yes, e_wp, e_wp0, e_wp1, e_re0, e_re1, e_kd_d, e_kd_o, e_kd_b, e_kd_n, o_add_i, o_add_s, o_add_l, o_add_t, o_sub, o_mul, o_div, o_mod, o_pow, o_lt_i, o_lt_s, o_le_i, o_le_s, o_gt_i, o_ge_i, o_ix_l, o_ix_t, o_ixK, o_len_l, o_len_t, o_len_s, o_int_i, o_int_b, o_abs, o_max, o_min, o_lst_l, o_lst_t, o_tup_l, o_tup_t, List.map_cons, List.map_nil, List.append_nil, List.nil_append, List.cons_append, List.length_cons, List.length_nil, List.getElem?_cons_zero, List.getElem?_cons_succ, List.set_cons_zero, List.set_cons_succ, if_true, if_false, List.replicate_zero, List.replicate_succ, List.length_set, Bool.not_true, Bool.not_false, decide_true, decide_false, true_and, and_true, Nat.reduceAdd, Nat.reduceLT, Nat.reduceLeDiff, reduceIte, reduceCtorEq, g8]
  rw [List.map_id, filter_lots] at key
  exact key
theorem row_d {row : List (List Str)} (on : ∀ z ∈ ns, nameL z = true) (hr : ∀ l ∈ row, l.Sublist ns) (short : ns.length ≤ 5) :
    rowD ⟨[s0, s1, some .bx, s3, some (.d (.list (lotsD (partsL ns)))), s5, some (.d (.int t)), o7, some (.d d8), some (.own (lotsD row)), o10, some (.own (lotsD (someOf ns row))), o12, o13, o14, none, none], b⟩ = some (.nx, ⟨[s0, s1, some .bx, s3, some (.d (.list (lotsD (partsL ns)))), s5, some (.d (.int t)), o7, some (.d d8), some (.own (lotsD row)), o10, some (.own (lotsD (someOf ns row))), some (.own (lotsD (leastD ns row))), o13, o14, none, none], b⟩) := by
  have ok : ∀ {l : List Str}, l.Sublist ns → Oks l := fun s z m => name_ok (on z (s.subset m))
  have fw : ∀ {l : List Str}, l.Sublist ns → Few l := fun s => Nat.lt_of_le_of_lt (Nat.le_trans s.length_le short) (by decide)
  have sub : ∀ l ∈ someOf ns row, l.Sublist ns := fun l h => hr l ((mem_some hr).mp h)
  have key := lc_map (vs := [16]) (on := some 11) (all := lotsD (someOf ns row)) (i := 16) (c := dTest (dOp opEq (dCB opLen (dCons (dLc [8] (dItV [8] 11) (dName 8) (dTest (dCall f__law_inside (dCons (dV 8) (dCons (dV 16) dNil)))) (dV 8)) dNil)) (dC (.int 0)))) (f := dV 16)
    (e := [s0, s1, some .bx, s3, some (.d (.list (lotsD (partsL ns)))), s5, some (.d (.int t)), o7, some (.d d8), some (.own (lotsD row)), o10, some (.own (lotsD (someOf ns row))), o12, o13, o14, none, none]) (b := b) (fun x => decide (((someOf ns row).filter fun o => insideL o (strsOf x)).length = 0)) id (fun i h => by cases h; rfl) (by show 16 < 17; decide) (fun x => rfl) (lotsD (someOf ns row)) (fun x hx => by
      obtain ⟨l, hl, rfl⟩ := mem_lotsD hx
      have k := in_fold (b := b) (some_ := someOf ns row) (p := fun x => insideL (strsOf x) l) (e := [s0, s1, some .bx, s3, some (.d (.list (lotsD (partsL ns)))), s5, some (.d (.int t)), o7, none, some (.own (lotsD row)), o10, some (.own (lotsD (someOf ns row))), o12, o13, o14, none, some (.d (lotD l))]) (c := dTest (dCall f__law_inside (dCons (dV 8) (dCons (dV 16) dNil)))) rfl rfl fun o ho => by
        have e1 : f__law_inside [.d (lotD o), .d (lotD l)] b = _ := inside_is (ok (sub o ho)) (ok (sub l hl)) (fw (sub o ho))
        rw [strsOf_lot]
        simp only [e_op4, e_op3, e_op2, e_op1, e_op, e_un2, e_un1, e_un, e_seq_nx, e_seq_rt, e_seq_bk, e_seq_ct, e_seq, e_nx, e_bk, e_ct, e_put, e_set1, e_set, e_drop1, e_drop, e_ret1, e_ret, e_retN, e_if_t, e_if_f, e_ifS, e_ifE, e_test1, e_test, e_not1, e_not, e_and_t, e_and_f, e_and, e_or_t, e_or_f, e_or, e_andV_t, e_andV_f, e_andV, e_orV_t, e_orV_f, e_orV, e_notV1, e_notV, e_nil, e_cons2, e_cons1, e_cons, e_tk2, e_tk1, e_tk0, e_tk, e_tup2, e_tup1, e_tup, e_lst2, e_lst1, e_lst, e_da1, e_da0, e_da, e_cb2, e_cb1, e_cb, e_v_d, e_v_o, e_v_b, e_v, e_c, e_h_d, e_h_f, e_h_s, e_h_b, e_at1, e_at, e_lm, e_d_d, e_d_f, e_d_s, e_d_b, e_ts, e_t_d, e_t_f, e_t_s, e_p_d, e_p_l, e_p_t, e_put_d, e_put_f, e_put_b, e_bx1, e_bx, e_ap2, e_ap1, e_ap0, e_apS, e_ap, e_arg2, e_arg1, e_arg0, e_arg_b, e_arg_d, e_arg_s, e_cl3, e_cl2, e_cl1, e_cl, e_rv_d, e_rv_o, e_rv_b, e_df2, e_df_r, e_df_n, e_df, e_om, e_r_d, e_r_f, e_r_s, e_r_b, e_ff_n, e_ff_c, e_ff_b, e_ff_r, e_fg, e_fr1, e_fr, e_nm, e_im, e_it2, e_it1, e_it, e_i_l, e_i_t, e_lc3, e_lc1, e_lc, e_io1, e_io, e_iv2, e_iv_d, e_iv_o, e_iv, e_ch6, e_ch5, e_ch4t, e_ch4f, e_ch3, e_ch2, e_ch1, e_ch, e_so_d, e_so_f, e_pr3, e_pr2, e_pr1, e_pr, e_sl4, e_sl3, e_sl2, e_sl1, e_sl, e_nop, e_pt1, e_pt, o_sl_l, o_sl_t, e_yes, e_wp, e_wp0, e_wp1, e_re0, e_re1, e_kd_d, e_kd_o, e_kd_b, e_kd_n, o_add_i, o_add_s, o_add_l, o_add_t, o_sub, o_mul, o_div, o_mod, o_pow, o_lt_i, o_lt_s, o_le_i, o_le_s, o_gt_i, o_ge_i, o_ix_l, o_ix_t, o_ixK, o_len_l, o_len_t, o_len_s, o_int_i, o_int_b, o_abs, o_max, o_min, o_lst_l, o_lst_t, o_tup_l, o_tup_t, List.map_cons, List.map_nil, List.append_nil, List.nil_append, List.cons_append, List.length_cons, List.length_nil, List.getElem?_cons_zero, List.getElem?_cons_succ, List.set_cons_zero, List.set_cons_succ, if_true, if_false, List.replicate_zero, List.replicate_succ, List.length_set, Bool.not_true, Bool.not_false, decide_true, decide_false, true_and, and_true, Nat.reduceAdd, Nat.reduceLT, Nat.reduceLeDiff, reduceIte, reduceCtorEq, e1]
      have ef : ((someOf ns row).filter fun o => insideL (strsOf (lotD o)) l) = (someOf ns row).filter fun o => insideL o l := List.filter_congr fun o _ => by rw [strsOf_lot]
      rw [ef] at k
      have sz := few_lots (l := (someOf ns row).filter fun o => insideL o l) (Nat.le_trans (List.length_filter_le _ _) (Nat.le_trans (some_few short) (by decide)))
      have c8 : ¬ (11 ∈ [8]) := by decide
      have z := len_zero ((someOf ns row).filter fun o => insideL o l)
      rw [strsOf_lot]
      simp only [e_op4, e_op3, e_op2, e_op1, e_op, e_un2, e_un1, e_un, e_seq_nx, e_seq_rt, e_seq_bk, e_seq_ct, e_seq, e_nx, e_bk, e_ct, e_put, e_set1, e_set, e_drop1, e_drop, e_ret1, e_ret, e_retN, e_if_t, e_if_f, e_ifS, e_ifE, e_test1, e_test, e_not1, e_not, e_and_t, e_and_f, e_and, e_or_t, e_or_f, e_or, e_andV_t, e_andV_f, e_andV, e_orV_t, e_orV_f, e_orV, e_notV1, e_notV, e_nil, e_cons2, e_cons1, e_cons, e_tk2, e_tk1, e_tk0, e_tk, e_tup2, e_tup1, e_tup, e_lst2, e_lst1, e_lst, e_da1, e_da0, e_da, e_cb2, e_cb1, e_cb, e_v_d, e_v_o, e_v_b, e_v, e_c, e_h_d, e_h_f, e_h_s, e_h_b, e_at1, e_at, e_lm, e_d_d, e_d_f, e_d_s, e_d_b, e_ts, e_t_d, e_t_f, e_t_s, e_p_d, e_p_l, e_p_t, e_put_d, e_put_f, e_put_b, e_bx1, e_bx, e_ap2, e_ap1, e_ap0, e_apS, e_ap, e_arg2, e_arg1, e_arg0, e_arg_b, e_arg_d, e_arg_s, e_cl3, e_cl2, e_cl1, e_cl, e_rv_d, e_rv_o, e_rv_b, e_df2, e_df_r, e_df_n, e_df, e_om, e_r_d, e_r_f, e_r_s, e_r_b, e_ff_n, e_ff_c, e_ff_b, e_ff_r, e_fg, e_fr1, e_fr, e_nm, e_im, e_it2, e_it1, e_it, e_i_l, e_i_t, e_lc3, e_lc1, e_lc, e_io1, e_io, e_iv2, e_iv_d, e_iv_o, e_iv, e_ch6, e_ch5, e_ch4t, e_ch4f, e_ch3, e_ch2, e_ch1, e_ch, e_so_d, e_so_f, e_pr3, e_pr2, e_pr1, e_pr, e_sl4, e_sl3, e_sl2, e_sl1, e_sl, e_nop, e_pt1, e_pt, o_sl_l, o_sl_t, e_yes, e_wp, e_wp0, e_wp1, e_re0, e_re1, e_kd_d, e_kd_o, e_kd_b, e_kd_n, o_add_i, o_add_s, o_add_l, o_add_t, o_sub, o_mul, o_div, o_mod, o_pow, o_lt_i, o_lt_s, o_le_i, o_le_s, o_gt_i, o_ge_i, o_ix_l, o_ix_t, o_ixK, o_len_l, o_len_t, o_len_s, o_int_i, o_int_b, o_abs, o_max, o_min, o_lst_l, o_lst_t, o_tup_l, o_tup_t, List.map_cons, List.map_nil, List.append_nil, List.nil_append, List.cons_append, List.length_cons, List.length_nil, List.getElem?_cons_zero, List.getElem?_cons_succ, List.set_cons_zero, List.set_cons_succ, if_true, if_false, List.replicate_zero, List.replicate_succ, List.length_set, Bool.not_true, Bool.not_false, decide_true, decide_false, true_and, and_true, Nat.reduceAdd, Nat.reduceLT, Nat.reduceLeDiff, reduceIte, reduceCtorEq, c8, k, sz, eq_int, z]) fun x hx _ => ⟨.d x, rfl, rfl⟩
  rw [List.map_id, filter_lots] at key
  have e : ((someOf ns row).filter fun z => decide (((someOf ns row).filter fun o => insideL o (strsOf (lotD z))).length = 0)) = leastD ns row := List.filter_congr fun l _ => by rw [strsOf_lot]
  rw [e] at key
  have sz := few_lots (l := leastD ns row) (Nat.le_trans (List.length_filter_le _ _) (Nat.le_trans (some_few short) (by decide)))
  have c16 : ¬ (11 ∈ [16]) := by decide
  unfold rowD
  simp only [e_op4, e_op3, e_op2, e_op1, e_op, e_un2, e_un1, e_un, e_seq_nx, e_seq_rt, e_seq_bk, e_seq_ct, e_seq, e_nx, e_bk, e_ct, e_put, e_set1, e_set, e_drop1, e_drop, e_ret1, e_ret, e_retN, e_if_t, e_if_f, e_ifS, e_ifE, e_test1, e_test, e_not1, e_not, e_and_t, e_and_f, e_and, e_or_t, e_or_f, e_or, e_andV_t, e_andV_f, e_andV, e_orV_t, e_orV_f, e_orV, e_notV1, e_notV, e_nil, e_cons2, e_cons1, e_cons, e_tk2, e_tk1, e_tk0, e_tk, e_tup2, e_tup1, e_tup, e_lst2, e_lst1, e_lst, e_da1, e_da0, e_da, e_cb2, e_cb1, e_cb, e_v_d, e_v_o, e_v_b, e_v, e_c, e_h_d, e_h_f, e_h_s, e_h_b, e_at1, e_at, e_lm, e_d_d, e_d_f, e_d_s, e_d_b, e_ts, e_t_d, e_t_f, e_t_s, e_p_d, e_p_l, e_p_t, e_put_d, e_put_f, e_put_b, e_bx1, e_bx, e_ap2, e_ap1, e_ap0, e_apS, e_ap, e_arg2, e_arg1, e_arg0, e_arg_b, e_arg_d, e_arg_s, e_cl3, e_cl2, e_cl1, e_cl, e_rv_d, e_rv_o, e_rv_b, e_df2, e_df_r, e_df_n, e_df, e_om, e_r_d, e_r_f, e_r_s, e_r_b, e_ff_n, e_ff_c, e_ff_b, e_ff_r, e_fg, e_fr1, e_fr, e_nm, e_im, e_it2, e_it1, e_it, e_i_l, e_i_t, e_lc3, e_lc1, e_lc, e_io1, e_io, e_iv2, e_iv_d, e_iv_o, e_iv, e_ch6, e_ch5, e_ch4t, e_ch4f, e_ch3, e_ch2, e_ch1, e_ch, e_so_d, e_so_f, e_pr3, e_pr2, e_pr1, e_pr, e_sl4, e_sl3, e_sl2, e_sl1, e_sl, e_nop, e_pt1, e_pt, o_sl_l, o_sl_t, e_yes, e_wp, e_wp0, e_wp1, e_re0, e_re1, e_kd_d, e_kd_o, e_kd_b, e_kd_n, o_add_i, o_add_s, o_add_l, o_add_t, o_sub, o_mul, o_div, o_mod, o_pow, o_lt_i, o_lt_s, o_le_i, o_le_s, o_gt_i, o_ge_i, o_ix_l, o_ix_t, o_ixK, o_len_l, o_len_t, o_len_s, o_int_i, o_int_b, o_abs, o_max, o_min, o_lst_l, o_lst_t, o_tup_l, o_tup_t, List.map_cons, List.map_nil, List.append_nil, List.nil_append, List.cons_append, List.length_cons, List.length_nil, List.getElem?_cons_zero, List.getElem?_cons_succ, List.set_cons_zero, List.set_cons_succ, if_true, if_false, List.replicate_zero, List.replicate_succ, List.length_set, Bool.not_true, Bool.not_false, decide_true, decide_false, true_and, and_true, Nat.reduceAdd, Nat.reduceLT, Nat.reduceLeDiff, reduceIte, reduceCtorEq, key, sz, c16]
theorem row_e {row : List (List Str)} (on : ∀ z ∈ ns, nameL z = true) (hr : ∀ l ∈ row, l.Sublist ns) (short : ns.length ≤ 5) :
    rowE ⟨[s0, s1, some .bx, s3, some (.d (.list (lotsD (partsL ns)))), s5, some (.d (.int t)), o7, some (.d d8), some (.own (lotsD row)), o10, some (.own (lotsD (someOf ns row))), o12, o13, o14, none, none], b⟩ = some (.nx, ⟨[s0, s1, some .bx, s3, some (.d (.list (lotsD (partsL ns)))), s5, some (.d (.int t)), o7, some (.d d8), some (.own (lotsD row)), o10, some (.own (lotsD (someOf ns row))), o12, some (.own (lotsD (greatestD ns row))), o14, none, none], b⟩) := by
  have ok : ∀ {l : List Str}, l.Sublist ns → Oks l := fun s z m => name_ok (on z (s.subset m))
  have fw : ∀ {l : List Str}, l.Sublist ns → Few l := fun s => Nat.lt_of_le_of_lt (Nat.le_trans s.length_le short) (by decide)
  have sub : ∀ l ∈ someOf ns row, l.Sublist ns := fun l h => hr l ((mem_some hr).mp h)
  have key := lc_map (vs := [16]) (on := some 11) (all := lotsD (someOf ns row)) (i := 16) (c := dTest (dOp opEq (dCB opLen (dCons (dLc [8] (dItV [8] 11) (dName 8) (dTest (dCall f__law_inside (dCons (dV 16) (dCons (dV 8) dNil)))) (dV 8)) dNil)) (dC (.int 0)))) (f := dV 16)
    (e := [s0, s1, some .bx, s3, some (.d (.list (lotsD (partsL ns)))), s5, some (.d (.int t)), o7, some (.d d8), some (.own (lotsD row)), o10, some (.own (lotsD (someOf ns row))), o12, o13, o14, none, none]) (b := b) (fun x => decide (((someOf ns row).filter fun o => insideL (strsOf x) o).length = 0)) id (fun i h => by cases h; rfl) (by show 16 < 17; decide) (fun x => rfl) (lotsD (someOf ns row)) (fun x hx => by
      obtain ⟨l, hl, rfl⟩ := mem_lotsD hx
      have k := in_fold (b := b) (some_ := someOf ns row) (p := fun x => insideL l (strsOf x)) (e := [s0, s1, some .bx, s3, some (.d (.list (lotsD (partsL ns)))), s5, some (.d (.int t)), o7, none, some (.own (lotsD row)), o10, some (.own (lotsD (someOf ns row))), o12, o13, o14, none, some (.d (lotD l))]) (c := dTest (dCall f__law_inside (dCons (dV 16) (dCons (dV 8) dNil)))) rfl rfl fun o ho => by
        have e1 : f__law_inside [.d (lotD l), .d (lotD o)] b = _ := inside_is (ok (sub l hl)) (ok (sub o ho)) (fw (sub l hl))
        rw [strsOf_lot]
        simp only [e_op4, e_op3, e_op2, e_op1, e_op, e_un2, e_un1, e_un, e_seq_nx, e_seq_rt, e_seq_bk, e_seq_ct, e_seq, e_nx, e_bk, e_ct, e_put, e_set1, e_set, e_drop1, e_drop, e_ret1, e_ret, e_retN, e_if_t, e_if_f, e_ifS, e_ifE, e_test1, e_test, e_not1, e_not, e_and_t, e_and_f, e_and, e_or_t, e_or_f, e_or, e_andV_t, e_andV_f, e_andV, e_orV_t, e_orV_f, e_orV, e_notV1, e_notV, e_nil, e_cons2, e_cons1, e_cons, e_tk2, e_tk1, e_tk0, e_tk, e_tup2, e_tup1, e_tup, e_lst2, e_lst1, e_lst, e_da1, e_da0, e_da, e_cb2, e_cb1, e_cb, e_v_d, e_v_o, e_v_b, e_v, e_c, e_h_d, e_h_f, e_h_s, e_h_b, e_at1, e_at, e_lm, e_d_d, e_d_f, e_d_s, e_d_b, e_ts, e_t_d, e_t_f, e_t_s, e_p_d, e_p_l, e_p_t, e_put_d, e_put_f, e_put_b, e_bx1, e_bx, e_ap2, e_ap1, e_ap0, e_apS, e_ap, e_arg2, e_arg1, e_arg0, e_arg_b, e_arg_d, e_arg_s, e_cl3, e_cl2, e_cl1, e_cl, e_rv_d, e_rv_o, e_rv_b, e_df2, e_df_r, e_df_n, e_df, e_om, e_r_d, e_r_f, e_r_s, e_r_b, e_ff_n, e_ff_c, e_ff_b, e_ff_r, e_fg, e_fr1, e_fr, e_nm, e_im, e_it2, e_it1, e_it, e_i_l, e_i_t, e_lc3, e_lc1, e_lc, e_io1, e_io, e_iv2, e_iv_d, e_iv_o, e_iv, e_ch6, e_ch5, e_ch4t, e_ch4f, e_ch3, e_ch2, e_ch1, e_ch, e_so_d, e_so_f, e_pr3, e_pr2, e_pr1, e_pr, e_sl4, e_sl3, e_sl2, e_sl1, e_sl, e_nop, e_pt1, e_pt, o_sl_l, o_sl_t, e_yes, e_wp, e_wp0, e_wp1, e_re0, e_re1, e_kd_d, e_kd_o, e_kd_b, e_kd_n, o_add_i, o_add_s, o_add_l, o_add_t, o_sub, o_mul, o_div, o_mod, o_pow, o_lt_i, o_lt_s, o_le_i, o_le_s, o_gt_i, o_ge_i, o_ix_l, o_ix_t, o_ixK, o_len_l, o_len_t, o_len_s, o_int_i, o_int_b, o_abs, o_max, o_min, o_lst_l, o_lst_t, o_tup_l, o_tup_t, List.map_cons, List.map_nil, List.append_nil, List.nil_append, List.cons_append, List.length_cons, List.length_nil, List.getElem?_cons_zero, List.getElem?_cons_succ, List.set_cons_zero, List.set_cons_succ, if_true, if_false, List.replicate_zero, List.replicate_succ, List.length_set, Bool.not_true, Bool.not_false, decide_true, decide_false, true_and, and_true, Nat.reduceAdd, Nat.reduceLT, Nat.reduceLeDiff, reduceIte, reduceCtorEq, e1]
      have ef : ((someOf ns row).filter fun o => insideL l (strsOf (lotD o))) = (someOf ns row).filter fun o => insideL l o := List.filter_congr fun o _ => by rw [strsOf_lot]
      rw [ef] at k
      have sz := few_lots (l := (someOf ns row).filter fun o => insideL l o) (Nat.le_trans (List.length_filter_le _ _) (Nat.le_trans (some_few short) (by decide)))
      have c8 : ¬ (11 ∈ [8]) := by decide
      have z := len_zero ((someOf ns row).filter fun o => insideL l o)
      rw [strsOf_lot]
      simp only [e_op4, e_op3, e_op2, e_op1, e_op, e_un2, e_un1, e_un, e_seq_nx, e_seq_rt, e_seq_bk, e_seq_ct, e_seq, e_nx, e_bk, e_ct, e_put, e_set1, e_set, e_drop1, e_drop, e_ret1, e_ret, e_retN, e_if_t, e_if_f, e_ifS, e_ifE, e_test1, e_test, e_not1, e_not, e_and_t, e_and_f, e_and, e_or_t, e_or_f, e_or, e_andV_t, e_andV_f, e_andV, e_orV_t, e_orV_f, e_orV, e_notV1, e_notV, e_nil, e_cons2, e_cons1, e_cons, e_tk2, e_tk1, e_tk0, e_tk, e_tup2, e_tup1, e_tup, e_lst2, e_lst1, e_lst, e_da1, e_da0, e_da, e_cb2, e_cb1, e_cb, e_v_d, e_v_o, e_v_b, e_v, e_c, e_h_d, e_h_f, e_h_s, e_h_b, e_at1, e_at, e_lm, e_d_d, e_d_f, e_d_s, e_d_b, e_ts, e_t_d, e_t_f, e_t_s, e_p_d, e_p_l, e_p_t, e_put_d, e_put_f, e_put_b, e_bx1, e_bx, e_ap2, e_ap1, e_ap0, e_apS, e_ap, e_arg2, e_arg1, e_arg0, e_arg_b, e_arg_d, e_arg_s, e_cl3, e_cl2, e_cl1, e_cl, e_rv_d, e_rv_o, e_rv_b, e_df2, e_df_r, e_df_n, e_df, e_om, e_r_d, e_r_f, e_r_s, e_r_b, e_ff_n, e_ff_c, e_ff_b, e_ff_r, e_fg, e_fr1, e_fr, e_nm, e_im, e_it2, e_it1, e_it, e_i_l, e_i_t, e_lc3, e_lc1, e_lc, e_io1, e_io, e_iv2, e_iv_d, e_iv_o, e_iv, e_ch6, e_ch5, e_ch4t, e_ch4f, e_ch3, e_ch2, e_ch1, e_ch, e_so_d, e_so_f, e_pr3, e_pr2, e_pr1, e_pr, e_sl4, e_sl3, e_sl2, e_sl1, e_sl, e_nop, e_pt1, e_pt, o_sl_l, o_sl_t, e_yes, e_wp, e_wp0, e_wp1, e_re0, e_re1, e_kd_d, e_kd_o, e_kd_b, e_kd_n, o_add_i, o_add_s, o_add_l, o_add_t, o_sub, o_mul, o_div, o_mod, o_pow, o_lt_i, o_lt_s, o_le_i, o_le_s, o_gt_i, o_ge_i, o_ix_l, o_ix_t, o_ixK, o_len_l, o_len_t, o_len_s, o_int_i, o_int_b, o_abs, o_max, o_min, o_lst_l, o_lst_t, o_tup_l, o_tup_t, List.map_cons, List.map_nil, List.append_nil, List.nil_append, List.cons_append, List.length_cons, List.length_nil, List.getElem?_cons_zero, List.getElem?_cons_succ, List.set_cons_zero, List.set_cons_succ, if_true, if_false, List.replicate_zero, List.replicate_succ, List.length_set, Bool.not_true, Bool.not_false, decide_true, decide_false, true_and, and_true, Nat.reduceAdd, Nat.reduceLT, Nat.reduceLeDiff, reduceIte, reduceCtorEq, c8, k, sz, eq_int, z]) fun x hx _ => ⟨.d x, rfl, rfl⟩
  rw [List.map_id, filter_lots] at key
  have e : ((someOf ns row).filter fun z => decide (((someOf ns row).filter fun o => insideL (strsOf (lotD z)) o).length = 0)) = greatestD ns row := List.filter_congr fun l _ => by rw [strsOf_lot]
  rw [e] at key
  have sz := few_lots (l := greatestD ns row) (Nat.le_trans (List.length_filter_le _ _) (Nat.le_trans (some_few short) (by decide)))
  have c16 : ¬ (11 ∈ [16]) := by decide
  unfold rowE
  simp only [e_op4, e_op3, e_op2, e_op1, e_op, e_un2, e_un1, e_un, e_seq_nx, e_seq_rt, e_seq_bk, e_seq_ct, e_seq, e_nx, e_bk, e_ct, e_put, e_set1, e_set, e_drop1, e_drop, e_ret1, e_ret, e_retN, e_if_t, e_if_f, e_ifS, e_ifE, e_test1, e_test, e_not1, e_not, e_and_t, e_and_f, e_and, e_or_t, e_or_f, e_or, e_andV_t, e_andV_f, e_andV, e_orV_t, e_orV_f, e_orV, e_notV1, e_notV, e_nil, e_cons2, e_cons1, e_cons, e_tk2, e_tk1, e_tk0, e_tk, e_tup2, e_tup1, e_tup, e_lst2, e_lst1, e_lst, e_da1, e_da0, e_da, e_cb2, e_cb1, e_cb, e_v_d, e_v_o, e_v_b, e_v, e_c, e_h_d, e_h_f, e_h_s, e_h_b, e_at1, e_at, e_lm, e_d_d, e_d_f, e_d_s, e_d_b, e_ts, e_t_d, e_t_f, e_t_s, e_p_d, e_p_l, e_p_t, e_put_d, e_put_f, e_put_b, e_bx1, e_bx, e_ap2, e_ap1, e_ap0, e_apS, e_ap, e_arg2, e_arg1, e_arg0, e_arg_b, e_arg_d, e_arg_s, e_cl3, e_cl2, e_cl1, e_cl, e_rv_d, e_rv_o, e_rv_b, e_df2, e_df_r, e_df_n, e_df, e_om, e_r_d, e_r_f, e_r_s, e_r_b, e_ff_n, e_ff_c, e_ff_b, e_ff_r, e_fg, e_fr1, e_fr, e_nm, e_im, e_it2, e_it1, e_it, e_i_l, e_i_t, e_lc3, e_lc1, e_lc, e_io1, e_io, e_iv2, e_iv_d, e_iv_o, e_iv, e_ch6, e_ch5, e_ch4t, e_ch4f, e_ch3, e_ch2, e_ch1, e_ch, e_so_d, e_so_f, e_pr3, e_pr2, e_pr1, e_pr, e_sl4, e_sl3, e_sl2, e_sl1, e_sl, e_nop, e_pt1, e_pt, o_sl_l, o_sl_t, e_yes, e_wp, e_wp0, e_wp1, e_re0, e_re1, e_kd_d, e_kd_o, e_kd_b, e_kd_n, o_add_i, o_add_s, o_add_l, o_add_t, o_sub, o_mul, o_div, o_mod, o_pow, o_lt_i, o_lt_s, o_le_i, o_le_s, o_gt_i, o_ge_i, o_ix_l, o_ix_t, o_ixK, o_len_l, o_len_t, o_len_s, o_int_i, o_int_b, o_abs, o_max, o_min, o_lst_l, o_lst_t, o_tup_l, o_tup_t, List.map_cons, List.map_nil, List.append_nil, List.nil_append, List.cons_append, List.length_cons, List.length_nil, List.getElem?_cons_zero, List.getElem?_cons_succ, List.set_cons_zero, List.set_cons_succ, if_true, if_false, List.replicate_zero, List.replicate_succ, List.length_set, Bool.not_true, Bool.not_false, decide_true, decide_false, true_and, and_true, Nat.reduceAdd, Nat.reduceLT, Nat.reduceLeDiff, reduceIte, reduceCtorEq, key, sz, c16]
end
end XN

set_option maxRecDepth 100000
set_option maxHeartbeats 4000000
/-! the law: what is asked of the row; names; the whole turn -/
namespace XN
open PySem PySem.Spec PyProof.Rows PySem.W L2 Evl XD

noncomputable def lookBody : DS := dIfS (dOr (dTest (dOp opNe (dCB opRepr (dCons (dCall f_least_lots (dCons (dV 9) dNil)) dNil)) (dCB opRepr (dCons (dCB opTup (dCons (dV 12) dNil)) dNil)))) (dTest (dOp opNe (dCB opRepr (dCons (dCall f_greatest_lots (dCons (dCB opTup (dCons (dV 9) dNil)) dNil)) dNil)) (dCB opRepr (dCons (dCB opTup (dCons (dV 13) dNil)) dNil))))) (dRet (dC (.bool false))) dNx
noncomputable def keptC : DS := dIfS (dOr (dTest (dOp opNe (dV 9) (dV 10))) (dTest (dOp opNe (dV 3) (dV 5)))) (dRet (dC (.bool false))) dNx
noncomputable def wideC : DS := dIfS (dNot (dTest (dCall f__law_wide_right (dCons (dV 2) dNil)))) (dRet (dC (.bool false))) dNx
noncomputable def nameA : DS := dSet 14 (dCall f__law_pick (dCons (dV 2) (dCons (dV 3) dNil)))
noncomputable def nameC : DS := dIfS (dOr (dTest (dOp opIsNot (dCall f_is_name (dCons (dV 14) dNil)) (dC (.bool true)))) (dTest (dOp opIn (dC (.bool true)) (dLc [15] (dIo (dItems (dCall f__law_no_names (dCons (dV 2) (dCons (dV 14) dNil))))) (dName 15) dYes (dCall f_is_name (dCons (dV 15) dNil)))))) (dRet (dC (.bool false))) dNx
theorem eqv_lots : ∀ ls : List (List Str), PyData.eqvAll (lotsD ls) (lotsD ls) = true
  | [] => by simp [PyData.eqvAll]
  | l :: ls => by
    show PyData.eqvAll (lotD l :: lotsD ls) (lotD l :: lotsD ls) = true
    rw [PyData.eqvAll, eqv_lot, eqv_lots ls]
    simp
theorem ne_lots_same {ls : List (List Str)} (h : ∀ l ∈ ls, Oks l) : opNe (.list (lotsD ls)) (.list (lotsD ls)) = some (.d (.bool false)) := by
  show (if SeqAt.shaped (.list (lotsD ls)) = true ∧ SeqAt.shaped (.list (lotsD ls)) = true then some (PV.d (.bool (!PyData.eqv (.list (lotsD ls)) (.list (lotsD ls))))) else none) = _
  rw [if_pos ⟨shaped_lots h, shaped_lots h⟩, PyData.eqv, eqv_lots]
  rfl
theorem ne_strs_same {l : List Str} (h : Oks l) : opNe (.list (strsD l)) (.list (strsD l)) = some (.d (.bool false)) := by
  show (if SeqAt.shaped (.list (strsD l)) = true ∧ SeqAt.shaped (.list (strsD l)) = true then some (PV.d (.bool (!PyData.eqv (.list (strsD l)) (.list (strsD l))))) else none) = _
  rw [if_pos ⟨shaped_strl h, shaped_strl h⟩, PyData.eqv, eqv_strs]
  simp
section
variable {ns : List Str} {s0 s1 s5 o6 o7 o8 o10 o11 o14 : Option SV} {b : List Int} {row : List (List Str)}
theorem look_is {o9 : Option SV} (on : ∀ z ∈ ns, nameL z = true) (od : Ord ns) (short : ns.length ≤ 5) (hr : ∀ l ∈ row, l.Sublist ns) (few : row.length ≤ 12) (h9 : o9 = some (.own (lotsD row)) ∨ o9 = some (.d (.list (lotsD row)))) {s3 s4 : Option SV} :
    lookBody ⟨[s0, s1, some .bx, s3, s4, s5, o6, o7, o8, o9, o10, o11, some (.own (lotsD (leastD ns row))), some (.own (lotsD (greatestD ns row))), o14, none, none], b⟩ = some (.nx, ⟨[s0, s1, some .bx, s3, s4, s5, o6, o7, o8, some (.d (.list (lotsD row))), o10, o11, some (.own (lotsD (leastD ns row))), some (.own (lotsD (greatestD ns row))), o14, none, none], b⟩) := by
  have okr : ∀ l ∈ row, Oks l := fun l h z m => name_ok (on z ((hr l h).subset m))
  have p1 : f_least_lots [.d (.list (lotsD row))] b = _ := f_least_is (ss_lots_l (ls := row) (by omega)) (by omega) okr
  have p2 : f_greatest_lots [.d (.tuple (lotsD row))] b = _ := f_greatest_is (ss_lots_t (ls := row) (by omega)) (by omega) okr
  rw [← least_eq od hr] at p1
  rw [← greatest_eq od hr] at p2
  have sub : ∀ l ∈ someOf ns row, (∀ z ∈ l, nameL z = true) ∧ l.length ≤ 10 := fun l h => by
    have s := hr l ((mem_some hr).mp h)
    exact ⟨fun z m => on z (s.subset m), Nat.le_trans s.length_le (by omega)⟩
  have r1 := repr_lots (ls := leastD ns row) (fun l h => sub l (List.mem_filter.mp h).1) (Nat.le_trans (List.length_filter_le _ _) (Nat.le_trans (some_few short) (by decide)))
  have r2 := repr_lots (ls := greatestD ns row) (fun l h => sub l (List.mem_filter.mp h).1) (Nat.le_trans (List.length_filter_le _ _) (Nat.le_trans (some_few short) (by decide)))
  unfold lookBody
  rcases h9 with rfl | rfl
  · simp only [e_op4, e_op3, e_op2, e_op1, e_op, e_un2, e_un1, e_un, e_seq_nx, e_seq_rt, e_seq_bk, e_seq_ct, e_seq, e_nx, e_bk, e_ct, e_put, e_set1, e_set, e_drop1, e_drop, e_ret1, e_ret, e_retN, e_if_t, e_if_f, e_ifS, e_ifE, e_test1, e_test, e_not1, e_not, e_and_t, e_and_f, e_and, e_or_t, e_or_f, e_or, e_andV_t, e_andV_f, e_andV, e_orV_t, e_orV_f, e_orV, e_notV1, e_notV, e_nil, e_cons2, e_cons1, e_cons, e_tk2, e_tk1, e_tk0, e_tk, e_tup2, e_tup1, e_tup, e_lst2, e_lst1, e_lst, e_da1, e_da0, e_da, e_cb2, e_cb1, e_cb, e_v_d, e_v_o, e_v_b, e_v, e_c, e_h_d, e_h_f, e_h_s, e_h_b, e_at1, e_at, e_lm, e_d_d, e_d_f, e_d_s, e_d_b, e_ts, e_t_d, e_t_f, e_t_s, e_p_d, e_p_l, e_p_t, e_put_d, e_put_f, e_put_b, e_bx1, e_bx, e_ap2, e_ap1, e_ap0, e_apS, e_ap, e_arg2, e_arg1, e_arg0, e_arg_b, e_arg_d, e_arg_s, e_cl3, e_cl2, e_cl1, e_cl, e_rv_d, e_rv_o, e_rv_b, e_df2, e_df_r, e_df_n, e_df, e_om, e_r_d, e_r_f, e_r_s, e_r_b, e_ff_n, e_ff_c, e_ff_b, e_ff_r, e_fg, e_fr1, e_fr, e_nm, e_im, e_it2, e_it1, e_it, e_i_l, e_i_t, e_lc3, e_lc1, e_lc, e_io1, e_io, e_iv2, e_iv_d, e_iv_o, e_iv, e_ch6, e_ch5, e_ch4t, e_ch4f, e_ch3, e_ch2, e_ch1, e_ch, e_so_d, e_so_f, e_pr3, e_pr2, e_pr1, e_pr, e_sl4, e_sl3, e_sl2, e_sl1, e_sl, e_nop, e_pt1, e_pt, o_sl_l, o_sl_t, e_yes, e_wp, e_wp0, e_wp1, e_re0, e_re1, e_kd_d, e_kd_o, e_kd_b, e_kd_n, o_add_i, o_add_s, o_add_l, o_add_t, o_sub, o_mul, o_div, o_mod, o_pow, o_lt_i, o_lt_s, o_le_i, o_le_s, o_gt_i, o_ge_i, o_ix_l, o_ix_t, o_ixK, o_len_l, o_len_t, o_len_s, o_int_i, o_int_b, o_abs, o_max, o_min, o_lst_l, o_lst_t, o_tup_l, o_tup_t, List.map_cons, List.map_nil, List.append_nil, List.nil_append, List.cons_append, List.length_cons, List.length_nil, List.getElem?_cons_zero, List.getElem?_cons_succ, List.set_cons_zero, List.set_cons_succ, if_true, if_false, List.replicate_zero, List.replicate_succ, List.length_set, Bool.not_true, Bool.not_false, decide_true, decide_false, true_and, and_true, Nat.reduceAdd, Nat.reduceLT, Nat.reduceLeDiff, reduceIte, reduceCtorEq, p1, p2, r1, r2, ne_same]
  · simp only [e_op4, e_op3, e_op2, e_op1, e_op, e_un2, e_un1, e_un, e_seq_nx, e_seq_rt, e_seq_bk, e_seq_ct, e_seq, e_nx, e_bk, e_ct, e_put, e_set1, e_set, e_drop1, e_drop, e_ret1, e_ret, e_retN, e_if_t, e_if_f, e_ifS, e_ifE, e_test1, e_test, e_not1, e_not, e_and_t, e_and_f, e_and, e_or_t, e_or_f, e_or, e_andV_t, e_andV_f, e_andV, e_orV_t, e_orV_f, e_orV, e_notV1, e_notV, e_nil, e_cons2, e_cons1, e_cons, e_tk2, e_tk1, e_tk0, e_tk, e_tup2, e_tup1, e_tup, e_lst2, e_lst1, e_lst, e_da1, e_da0, e_da, e_cb2, e_cb1, e_cb, e_v_d, e_v_o, e_v_b, e_v, e_c, e_h_d, e_h_f, e_h_s, e_h_b, e_at1, e_at, e_lm, e_d_d, e_d_f, e_d_s, e_d_b, e_ts, e_t_d, e_t_f, e_t_s, e_p_d, e_p_l, e_p_t, e_put_d, e_put_f, e_put_b, e_bx1, e_bx, e_ap2, e_ap1, e_ap0, e_apS, e_ap, e_arg2, e_arg1, e_arg0, e_arg_b, e_arg_d, e_arg_s, e_cl3, e_cl2, e_cl1, e_cl, e_rv_d, e_rv_o, e_rv_b, e_df2, e_df_r, e_df_n, e_df, e_om, e_r_d, e_r_f, e_r_s, e_r_b, e_ff_n, e_ff_c, e_ff_b, e_ff_r, e_fg, e_fr1, e_fr, e_nm, e_im, e_it2, e_it1, e_it, e_i_l, e_i_t, e_lc3, e_lc1, e_lc, e_io1, e_io, e_iv2, e_iv_d, e_iv_o, e_iv, e_ch6, e_ch5, e_ch4t, e_ch4f, e_ch3, e_ch2, e_ch1, e_ch, e_so_d, e_so_f, e_pr3, e_pr2, e_pr1, e_pr, e_sl4, e_sl3, e_sl2, e_sl1, e_sl, e_nop, e_pt1, e_pt, o_sl_l, o_sl_t, e_yes, e_wp, e_wp0, e_wp1, e_re0, e_re1, e_kd_d, e_kd_o, e_kd_b, e_kd_n, o_add_i, o_add_s, o_add_l, o_add_t, o_sub, o_mul, o_div, o_mod, o_pow, o_lt_i, o_lt_s, o_le_i, o_le_s, o_gt_i, o_ge_i, o_ix_l, o_ix_t, o_ixK, o_len_l, o_len_t, o_len_s, o_int_i, o_int_b, o_abs, o_max, o_min, o_lst_l, o_lst_t, o_tup_l, o_tup_t, List.map_cons, List.map_nil, List.append_nil, List.nil_append, List.cons_append, List.length_cons, List.length_nil, List.getElem?_cons_zero, List.getElem?_cons_succ, List.set_cons_zero, List.set_cons_succ, if_true, if_false, List.replicate_zero, List.replicate_succ, List.length_set, Bool.not_true, Bool.not_false, decide_true, decide_false, true_and, and_true, Nat.reduceAdd, Nat.reduceLT, Nat.reduceLeDiff, reduceIte, reduceCtorEq, p1, p2, r1, r2, ne_same]
theorem kept_is {o11 o12 o13 s4 : Option SV} (on : ∀ z ∈ ns, nameL z = true) (hr : ∀ l ∈ row, l.Sublist ns) :
    keptC ⟨[s0, s1, some .bx, some (.d (.list (strsD ns))), s4, some (.own (strsD ns)), o6, o7, o8, some (.d (.list (lotsD row))), some (.own (lotsD row)), o11, o12, o13, o14, none, none], b⟩ = some (.nx, ⟨[s0, s1, some .bx, some (.d (.list (strsD ns))), s4, some (.own (strsD ns)), o6, o7, o8, some (.d (.list (lotsD row))), some (.own (lotsD row)), o11, o12, o13, o14, none, none], b⟩) := by
  have okr : ∀ l ∈ row, Oks l := fun l h z m => name_ok (on z ((hr l h).subset m))
  have okn : Oks ns := fun z m => name_ok (on z m)
  have n1 := ne_lots_same okr
  have n2 := ne_strs_same okn
  unfold keptC
  simp only [e_op4, e_op3, e_op2, e_op1, e_op, e_un2, e_un1, e_un, e_seq_nx, e_seq_rt, e_seq_bk, e_seq_ct, e_seq, e_nx, e_bk, e_ct, e_put, e_set1, e_set, e_drop1, e_drop, e_ret1, e_ret, e_retN, e_if_t, e_if_f, e_ifS, e_ifE, e_test1, e_test, e_not1, e_not, e_and_t, e_and_f, e_and, e_or_t, e_or_f, e_or, e_andV_t, e_andV_f, e_andV, e_orV_t, e_orV_f, e_orV, e_notV1, e_notV, e_nil, e_cons2, e_cons1, e_cons, e_tk2, e_tk1, e_tk0, e_tk, e_tup2, e_tup1, e_tup, e_lst2, e_lst1, e_lst, e_da1, e_da0, e_da, e_cb2, e_cb1, e_cb, e_v_d, e_v_o, e_v_b, e_v, e_c, e_h_d, e_h_f, e_h_s, e_h_b, e_at1, e_at, e_lm, e_d_d, e_d_f, e_d_s, e_d_b, e_ts, e_t_d, e_t_f, e_t_s, e_p_d, e_p_l, e_p_t, e_put_d, e_put_f, e_put_b, e_bx1, e_bx, e_ap2, e_ap1, e_ap0, e_apS, e_ap, e_arg2, e_arg1, e_arg0, e_arg_b, e_arg_d, e_arg_s, e_cl3, e_cl2, e_cl1, e_cl, e_rv_d, e_rv_o, e_rv_b, e_df2, e_df_r, e_df_n, e_df, e_om, e_r_d, e_r_f, e_r_s, e_r_b, e_ff_n, e_ff_c, e_ff_b, e_ff_r, e_fg, e_fr1, e_fr, e_nm, e_im, e_it2, e_it1, e_it, e_i_l, e_i_t, e_lc3, e_lc1, e_lc, e_io1, e_io, e_iv2, e_iv_d, e_iv_o, e_iv, e_ch6, e_ch5, e_ch4t, e_ch4f, e_ch3, e_ch2, e_ch1, e_ch, e_so_d, e_so_f, e_pr3, e_pr2, e_pr1, e_pr, e_sl4, e_sl3, e_sl2, e_sl1, e_sl, e_nop, e_pt1, e_pt, o_sl_l, o_sl_t, e_yes, e_wp, e_wp0, e_wp1, e_re0, e_re1, e_kd_d, e_kd_o, e_kd_b, e_kd_n, o_add_i, o_add_s, o_add_l, o_add_t, o_sub, o_mul, o_div, o_mod, o_pow, o_lt_i, o_lt_s, o_le_i, o_le_s, o_gt_i, o_ge_i, o_ix_l, o_ix_t, o_ixK, o_len_l, o_len_t, o_len_s, o_int_i, o_int_b, o_abs, o_max, o_min, o_lst_l, o_lst_t, o_tup_l, o_tup_t, List.map_cons, List.map_nil, List.append_nil, List.nil_append, List.cons_append, List.length_cons, List.length_nil, List.getElem?_cons_zero, List.getElem?_cons_succ, List.set_cons_zero, List.set_cons_succ, if_true, if_false, List.replicate_zero, List.replicate_succ, List.length_set, Bool.not_true, Bool.not_false, decide_true, decide_false, true_and, and_true, Nat.reduceAdd, Nat.reduceLT, Nat.reduceLeDiff, reduceIte, reduceCtorEq, n1, n2]
theorem wide_step {s3 s4 s5 o9 o10 o11 o12 o13 : Option SV} (hb : Bx b) : ∃ b', Bx b' ∧
    wideC ⟨[s0, s1, some .bx, s3, s4, s5, o6, o7, o8, o9, o10, o11, o12, o13, o14, none, none], b⟩ = some (.nx, ⟨[s0, s1, some .bx, s3, s4, s5, o6, o7, o8, o9, o10, o11, o12, o13, o14, none, none], b'⟩) := by
  obtain ⟨b', e, hb'⟩ := wide_is hb
  refine ⟨b', hb', ?_⟩
  unfold wideC
  simp only [e_op4, e_op3, e_op2, e_op1, e_op, e_un2, e_un1, e_un, e_seq_nx, e_seq_rt, e_seq_bk, e_seq_ct, e_seq, e_nx, e_bk, e_ct, e_put, e_set1, e_set, e_drop1, e_drop, e_ret1, e_ret, e_retN, e_if_t, e_if_f, e_ifS, e_ifE, e_test1, e_test, e_not1, e_not, e_and_t, e_and_f, e_and, e_or_t, e_or_f, e_or, e_andV_t, e_andV_f, e_andV, e_orV_t, e_orV_f, e_orV, e_notV1, e_notV, e_nil, e_cons2, e_cons1, e_cons, e_tk2, e_tk1, e_tk0, e_tk, e_tup2, e_tup1, e_tup, e_lst2, e_lst1, e_lst, e_da1, e_da0, e_da, e_cb2, e_cb1, e_cb, e_v_d, e_v_o, e_v_b, e_v, e_c, e_h_d, e_h_f, e_h_s, e_h_b, e_at1, e_at, e_lm, e_d_d, e_d_f, e_d_s, e_d_b, e_ts, e_t_d, e_t_f, e_t_s, e_p_d, e_p_l, e_p_t, e_put_d, e_put_f, e_put_b, e_bx1, e_bx, e_ap2, e_ap1, e_ap0, e_apS, e_ap, e_arg2, e_arg1, e_arg0, e_arg_b, e_arg_d, e_arg_s, e_cl3, e_cl2, e_cl1, e_cl, e_rv_d, e_rv_o, e_rv_b, e_df2, e_df_r, e_df_n, e_df, e_om, e_r_d, e_r_f, e_r_s, e_r_b, e_ff_n, e_ff_c, e_ff_b, e_ff_r, e_fg, e_fr1, e_fr, e_nm, e_im, e_it2, e_it1, e_it, e_i_l, e_i_t, e_lc3, e_lc1, e_lc, e_io1, e_io, e_iv2, e_iv_d, e_iv_o, e_iv, e_ch6, e_ch5, e_ch4t, e_ch4f, e_ch3, e_ch2, e_ch1, e_ch, e_so_d, e_so_f, e_pr3, e_pr2, e_pr1, e_pr, e_sl4, e_sl3, e_sl2, e_sl1, e_sl, e_nop, e_pt1, e_pt, o_sl_l, o_sl_t, e_yes, e_wp, e_wp0, e_wp1, e_re0, e_re1, e_kd_d, e_kd_o, e_kd_b, e_kd_n, o_add_i, o_add_s, o_add_l, o_add_t, o_sub, o_mul, o_div, o_mod, o_pow, o_lt_i, o_lt_s, o_le_i, o_le_s, o_gt_i, o_ge_i, o_ix_l, o_ix_t, o_ixK, o_len_l, o_len_t, o_len_s, o_int_i, o_int_b, o_abs, o_max, o_min, o_lst_l, o_lst_t, o_tup_l, o_tup_t, List.map_cons, List.map_nil, List.append_nil, List.nil_append, List.cons_append, List.length_cons, List.length_nil, List.getElem?_cons_zero, List.getElem?_cons_succ, List.set_cons_zero, List.set_cons_succ, if_true, if_false, List.replicate_zero, List.replicate_succ, List.length_set, Bool.not_true, Bool.not_false, decide_true, decide_false, true_and, and_true, Nat.reduceAdd, Nat.reduceLT, Nat.reduceLeDiff, reduceIte, reduceCtorEq, e]
theorem name_step {s4 s5 o9 o10 o11 o12 o13 : Option SV} (hb : Bx b) (on : ∀ z ∈ ns, nameL z = true) (short : ns.length ≤ 5) (h0 : ns ≠ []) : ∃ z b', Bx b' ∧ nameL z = true ∧
    nameA ⟨[s0, s1, some .bx, some (.d (.list (strsD ns))), s4, s5, o6, o7, o8, o9, o10, o11, o12, o13, o14, none, none], b⟩ = some (.nx, ⟨[s0, s1, some .bx, some (.d (.list (strsD ns))), s4, s5, o6, o7, o8, o9, o10, o11, o12, o13, some (.d (.str z)), none, none], b'⟩) := by
  have ln : (strsD ns).length = ns.length := List.length_map _
  have ne : strsD ns ≠ [] := fun z => by
    have := congrArg List.length z
    rw [ln, List.length_nil] at this
    exact h0 (List.eq_nil_of_length_eq_zero this)
  obtain ⟨r, b1, e1, m1, hb1⟩ := pick_is hb ne (by omega)
  obtain ⟨z, hz, rfl⟩ := mem_strsD m1
  refine ⟨z, b1, hb1, on z hz, ?_⟩
  unfold nameA
  simp only [e_op4, e_op3, e_op2, e_op1, e_op, e_un2, e_un1, e_un, e_seq_nx, e_seq_rt, e_seq_bk, e_seq_ct, e_seq, e_nx, e_bk, e_ct, e_put, e_set1, e_set, e_drop1, e_drop, e_ret1, e_ret, e_retN, e_if_t, e_if_f, e_ifS, e_ifE, e_test1, e_test, e_not1, e_not, e_and_t, e_and_f, e_and, e_or_t, e_or_f, e_or, e_andV_t, e_andV_f, e_andV, e_orV_t, e_orV_f, e_orV, e_notV1, e_notV, e_nil, e_cons2, e_cons1, e_cons, e_tk2, e_tk1, e_tk0, e_tk, e_tup2, e_tup1, e_tup, e_lst2, e_lst1, e_lst, e_da1, e_da0, e_da, e_cb2, e_cb1, e_cb, e_v_d, e_v_o, e_v_b, e_v, e_c, e_h_d, e_h_f, e_h_s, e_h_b, e_at1, e_at, e_lm, e_d_d, e_d_f, e_d_s, e_d_b, e_ts, e_t_d, e_t_f, e_t_s, e_p_d, e_p_l, e_p_t, e_put_d, e_put_f, e_put_b, e_bx1, e_bx, e_ap2, e_ap1, e_ap0, e_apS, e_ap, e_arg2, e_arg1, e_arg0, e_arg_b, e_arg_d, e_arg_s, e_cl3, e_cl2, e_cl1, e_cl, e_rv_d, e_rv_o, e_rv_b, e_df2, e_df_r, e_df_n, e_df, e_om, e_r_d, e_r_f, e_r_s, e_r_b, e_ff_n, e_ff_c, e_ff_b, e_ff_r, e_fg, e_fr1, e_fr, e_nm, e_im, e_it2, e_it1, e_it, e_i_l, e_i_t, e_lc3, e_lc1, e_lc, e_io1, e_io, e_iv2, e_iv_d, e_iv_o, e_iv, e_ch6, e_ch5, e_ch4t, e_ch4f, e_ch3, e_ch2, e_ch1, e_ch, e_so_d, e_so_f, e_pr3, e_pr2, e_pr1, e_pr, e_sl4, e_sl3, e_sl2, e_sl1, e_sl, e_nop, e_pt1, e_pt, o_sl_l, o_sl_t, e_yes, e_wp, e_wp0, e_wp1, e_re0, e_re1, e_kd_d, e_kd_o, e_kd_b, e_kd_n, o_add_i, o_add_s, o_add_l, o_add_t, o_sub, o_mul, o_div, o_mod, o_pow, o_lt_i, o_lt_s, o_le_i, o_le_s, o_gt_i, o_ge_i, o_ix_l, o_ix_t, o_ixK, o_len_l, o_len_t, o_len_s, o_int_i, o_int_b, o_abs, o_max, o_min, o_lst_l, o_lst_t, o_tup_l, o_tup_t, List.map_cons, List.map_nil, List.append_nil, List.nil_append, List.cons_append, List.length_cons, List.length_nil, List.getElem?_cons_zero, List.getElem?_cons_succ, List.set_cons_zero, List.set_cons_succ, if_true, if_false, List.replicate_zero, List.replicate_succ, List.length_set, Bool.not_true, Bool.not_false, decide_true, decide_false, true_and, and_true, Nat.reduceAdd, Nat.reduceLT, Nat.reduceLeDiff, reduceIte, reduceCtorEq, e1]
theorem name_check {z : Str} {s3 s4 s5 o9 o10 o11 o12 o13 : Option SV} (hb : Bx b) (hz : nameL z = true) : ∃ b', Bx b' ∧
    nameC ⟨[s0, s1, some .bx, s3, s4, s5, o6, o7, o8, o9, o10, o11, o12, o13, some (.d (.str z)), none, none], b⟩ = some (.nx, ⟨[s0, s1, some .bx, s3, s4, s5, o6, o7, o8, o9, o10, o11, o12, o13, some (.d (.str z)), none, none], b'⟩) := by
  have cz := clean_name hz
  have e1 : f_is_name [.d (.str z)] b = some (.d (.bool (nameD (.str z))), b) := f_is_name_is cz.1 cz.2
  have ez : nameD (.str z) = true := hz
  rw [ez] at e1
  obtain ⟨xs, b1, e2, hb1, bad, fx⟩ := no_names_is hb hz
  have k := ask_fold (F := f_is_name) (all := xs) (e := [s0, s1, some .bx, s3, s4, s5, o6, o7, o8, o9, o10, o11, o12, o13, some (.d (.str z)), none, none]) (b := b1) (k := 15) (f := nameD) rfl xs fun x hx => f_is_name_is (bad x hx).2.1 (bad x hx).2.2
  rw [all_false fun x hx => (bad x hx).1] at k
  have sz : ((xs.map fun _ => false).map PyData.bool).length < 100000 := by
    rw [List.length_map, List.length_map]
    omega
  have tn := true_in (xs.map fun _ => false)
  rw [any_false] at tn
  refine ⟨b1, hb1, ?_⟩
  unfold nameC
  simp only [e_op4, e_op3, e_op2, e_op1, e_op, e_un2, e_un1, e_un, e_seq_nx, e_seq_rt, e_seq_bk, e_seq_ct, e_seq, e_nx, e_bk, e_ct, e_put, e_set1, e_set, e_drop1, e_drop, e_ret1, e_ret, e_retN, e_if_t, e_if_f, e_ifS, e_ifE, e_test1, e_test, e_not1, e_not, e_and_t, e_and_f, e_and, e_or_t, e_or_f, e_or, e_andV_t, e_andV_f, e_andV, e_orV_t, e_orV_f, e_orV, e_notV1, e_notV, e_nil, e_cons2, e_cons1, e_cons, e_tk2, e_tk1, e_tk0, e_tk, e_tup2, e_tup1, e_tup, e_lst2, e_lst1, e_lst, e_da1, e_da0, e_da, e_cb2, e_cb1, e_cb, e_v_d, e_v_o, e_v_b, e_v, e_c, e_h_d, e_h_f, e_h_s, e_h_b, e_at1, e_at, e_lm, e_d_d, e_d_f, e_d_s, e_d_b, e_ts, e_t_d, e_t_f, e_t_s, e_p_d, e_p_l, e_p_t, e_put_d, e_put_f, e_put_b, e_bx1, e_bx, e_ap2, e_ap1, e_ap0, e_apS, e_ap, e_arg2, e_arg1, e_arg0, e_arg_b, e_arg_d, e_arg_s, e_cl3, e_cl2, e_cl1, e_cl, e_rv_d, e_rv_o, e_rv_b, e_df2, e_df_r, e_df_n, e_df, e_om, e_r_d, e_r_f, e_r_s, e_r_b, e_ff_n, e_ff_c, e_ff_b, e_ff_r, e_fg, e_fr1, e_fr, e_nm, e_im, e_it2, e_it1, e_it, e_i_l, e_i_t, e_lc3, e_lc1, e_lc, e_io1, e_io, e_iv2, e_iv_d, e_iv_o, e_iv, e_ch6, e_ch5, e_ch4t, e_ch4f, e_ch3, e_ch2, e_ch1, e_ch, e_so_d, e_so_f, e_pr3, e_pr2, e_pr1, e_pr, e_sl4, e_sl3, e_sl2, e_sl1, e_sl, e_nop, e_pt1, e_pt, o_sl_l, o_sl_t, e_yes, e_wp, e_wp0, e_wp1, e_re0, e_re1, e_kd_d, e_kd_o, e_kd_b, e_kd_n, o_add_i, o_add_s, o_add_l, o_add_t, o_sub, o_mul, o_div, o_mod, o_pow, o_lt_i, o_lt_s, o_le_i, o_le_s, o_gt_i, o_ge_i, o_ix_l, o_ix_t, o_ixK, o_len_l, o_len_t, o_len_s, o_int_i, o_int_b, o_abs, o_max, o_min, o_lst_l, o_lst_t, o_tup_l, o_tup_t, List.map_cons, List.map_nil, List.append_nil, List.nil_append, List.cons_append, List.length_cons, List.length_nil, List.getElem?_cons_zero, List.getElem?_cons_succ, List.set_cons_zero, List.set_cons_succ, if_true, if_false, List.replicate_zero, List.replicate_succ, List.length_set, Bool.not_true, Bool.not_false, decide_true, decide_false, true_and, and_true, Nat.reduceAdd, Nat.reduceLT, Nat.reduceLeDiff, reduceIte, reduceCtorEq, e1, is_not_true, e2, k, sz, tn]
end
noncomputable def headA : DS := dSet 3 (dCall f__law_names (dCons (dV 2) (dCons (dOp opAdd (dC (.int 1)) (dCall f__law_take (dCons (dV 2) (dCons (dC (.int 5)) dNil)))) dNil)))
noncomputable def headB : DS := dPar 4 5 (dCall f__law_all (dCons (dV 3) dNil)) (dCB opList (dCons (dV 3) dNil))
noncomputable def headC : DS := dIfS (dOr (dTest (dOp opNe (dCB opRepr (dCons (dCall f_parts_of (dCons (dCB opTup (dCons (dV 3) dNil)) dNil)) dNil)) (dCB opRepr (dCons (dCB opTup (dCons (dV 4) dNil)) dNil)))) (dTest (dOp opNe (dCB opRepr (dCons (dCall f_parts_of (dCons (dTup dNil) dNil)) dNil)) (dC (.str "((),)"))))) (dRet (dC (.bool false))) dNx
noncomputable def headD : DS := dFor (dRng1 (dCons (dC (.int 4)) dNil)) (dName 6) turnBody
noncomputable def lookD : DS := dFor (dRng1 (dCons (dC (.int 2)) dNil)) (dName 6) lookBody
section
variable {s0 s1 o3 o4 o5 o6 o7 o8 o9 o10 o11 o12 o13 o14 : Option SV} {b : List Int}
theorem head_a (hb : Bx b) : ∃ ns b', Bx b' ∧ (∀ z ∈ ns, nameL z = true) ∧ Ord ns ∧ ns.length ≤ 5 ∧ ns ≠ [] ∧
    headA ⟨[s0, s1, some .bx, o3, o4, o5, o6, o7, o8, o9, o10, o11, o12, o13, o14, none, none], b⟩ = some (.nx, ⟨[s0, s1, some .bx, some (.own (strsD ns)), o4, o5, o6, o7, o8, o9, o10, o11, o12, o13, o14, none, none], b'⟩) := by
  obtain ⟨r, b1, e1, r0, r1, hb1⟩ := take_is (n := 5) hb (by decide) (by decide)
  obtain ⟨ns, b2, e2, hb2, hn, hl, h0, hs⟩ := names_is (many := 1 + r) hb1 ⟨by omega, by omega⟩
  refine ⟨ns, b2, hb2, hn.1, ⟨hn.2, hs⟩, by omega, h0, ?_⟩
  unfold headA
  simp only [e_op4, e_op3, e_op2, e_op1, e_op, e_un2, e_un1, e_un, e_seq_nx, e_seq_rt, e_seq_bk, e_seq_ct, e_seq, e_nx, e_bk, e_ct, e_put, e_set1, e_set, e_drop1, e_drop, e_ret1, e_ret, e_retN, e_if_t, e_if_f, e_ifS, e_ifE, e_test1, e_test, e_not1, e_not, e_and_t, e_and_f, e_and, e_or_t, e_or_f, e_or, e_andV_t, e_andV_f, e_andV, e_orV_t, e_orV_f, e_orV, e_notV1, e_notV, e_nil, e_cons2, e_cons1, e_cons, e_tk2, e_tk1, e_tk0, e_tk, e_tup2, e_tup1, e_tup, e_lst2, e_lst1, e_lst, e_da1, e_da0, e_da, e_cb2, e_cb1, e_cb, e_v_d, e_v_o, e_v_b, e_v, e_c, e_h_d, e_h_f, e_h_s, e_h_b, e_at1, e_at, e_lm, e_d_d, e_d_f, e_d_s, e_d_b, e_ts, e_t_d, e_t_f, e_t_s, e_p_d, e_p_l, e_p_t, e_put_d, e_put_f, e_put_b, e_bx1, e_bx, e_ap2, e_ap1, e_ap0, e_apS, e_ap, e_arg2, e_arg1, e_arg0, e_arg_b, e_arg_d, e_arg_s, e_cl3, e_cl2, e_cl1, e_cl, e_rv_d, e_rv_o, e_rv_b, e_df2, e_df_r, e_df_n, e_df, e_om, e_r_d, e_r_f, e_r_s, e_r_b, e_ff_n, e_ff_c, e_ff_b, e_ff_r, e_fg, e_fr1, e_fr, e_nm, e_im, e_it2, e_it1, e_it, e_i_l, e_i_t, e_lc3, e_lc1, e_lc, e_io1, e_io, e_iv2, e_iv_d, e_iv_o, e_iv, e_ch6, e_ch5, e_ch4t, e_ch4f, e_ch3, e_ch2, e_ch1, e_ch, e_so_d, e_so_f, e_pr3, e_pr2, e_pr1, e_pr, e_sl4, e_sl3, e_sl2, e_sl1, e_sl, e_nop, e_pt1, e_pt, o_sl_l, o_sl_t, e_yes, e_wp, e_wp0, e_wp1, e_re0, e_re1, e_kd_d, e_kd_o, e_kd_b, e_kd_n, o_add_i, o_add_s, o_add_l, o_add_t, o_sub, o_mul, o_div, o_mod, o_pow, o_lt_i, o_lt_s, o_le_i, o_le_s, o_gt_i, o_ge_i, o_ix_l, o_ix_t, o_ixK, o_len_l, o_len_t, o_len_s, o_int_i, o_int_b, o_abs, o_max, o_min, o_lst_l, o_lst_t, o_tup_l, o_tup_t, List.map_cons, List.map_nil, List.append_nil, List.nil_append, List.cons_append, List.length_cons, List.length_nil, List.getElem?_cons_zero, List.getElem?_cons_succ, List.set_cons_zero, List.set_cons_succ, if_true, if_false, List.replicate_zero, List.replicate_succ, List.length_set, Bool.not_true, Bool.not_false, decide_true, decide_false, true_and, and_true, Nat.reduceAdd, Nat.reduceLT, Nat.reduceLeDiff, reduceIte, reduceCtorEq, e1, e2]
theorem head_b {ns : List Str} (short : ns.length ≤ 5) :
    headB ⟨[s0, s1, some .bx, some (.own (strsD ns)), o4, o5, o6, o7, o8, o9, o10, o11, o12, o13, o14, none, none], b⟩ = some (.nx, ⟨[s0, s1, some .bx, some (.d (.list (strsD ns))), some (.own (lotsD (partsL ns))), some (.own (strsD ns)), o6, o7, o8, o9, o10, o11, o12, o13, o14, none, none], b⟩) := by
  have e1 : f__law_all [.d (.list (strsD ns))] b = _ := all_is (by omega)
  unfold headB
  simp only [e_op4, e_op3, e_op2, e_op1, e_op, e_un2, e_un1, e_un, e_seq_nx, e_seq_rt, e_seq_bk, e_seq_ct, e_seq, e_nx, e_bk, e_ct, e_put, e_set1, e_set, e_drop1, e_drop, e_ret1, e_ret, e_retN, e_if_t, e_if_f, e_ifS, e_ifE, e_test1, e_test, e_not1, e_not, e_and_t, e_and_f, e_and, e_or_t, e_or_f, e_or, e_andV_t, e_andV_f, e_andV, e_orV_t, e_orV_f, e_orV, e_notV1, e_notV, e_nil, e_cons2, e_cons1, e_cons, e_tk2, e_tk1, e_tk0, e_tk, e_tup2, e_tup1, e_tup, e_lst2, e_lst1, e_lst, e_da1, e_da0, e_da, e_cb2, e_cb1, e_cb, e_v_d, e_v_o, e_v_b, e_v, e_c, e_h_d, e_h_f, e_h_s, e_h_b, e_at1, e_at, e_lm, e_d_d, e_d_f, e_d_s, e_d_b, e_ts, e_t_d, e_t_f, e_t_s, e_p_d, e_p_l, e_p_t, e_put_d, e_put_f, e_put_b, e_bx1, e_bx, e_ap2, e_ap1, e_ap0, e_apS, e_ap, e_arg2, e_arg1, e_arg0, e_arg_b, e_arg_d, e_arg_s, e_cl3, e_cl2, e_cl1, e_cl, e_rv_d, e_rv_o, e_rv_b, e_df2, e_df_r, e_df_n, e_df, e_om, e_r_d, e_r_f, e_r_s, e_r_b, e_ff_n, e_ff_c, e_ff_b, e_ff_r, e_fg, e_fr1, e_fr, e_nm, e_im, e_it2, e_it1, e_it, e_i_l, e_i_t, e_lc3, e_lc1, e_lc, e_io1, e_io, e_iv2, e_iv_d, e_iv_o, e_iv, e_ch6, e_ch5, e_ch4t, e_ch4f, e_ch3, e_ch2, e_ch1, e_ch, e_so_d, e_so_f, e_pr3, e_pr2, e_pr1, e_pr, e_sl4, e_sl3, e_sl2, e_sl1, e_sl, e_nop, e_pt1, e_pt, o_sl_l, o_sl_t, e_yes, e_wp, e_wp0, e_wp1, e_re0, e_re1, e_kd_d, e_kd_o, e_kd_b, e_kd_n, o_add_i, o_add_s, o_add_l, o_add_t, o_sub, o_mul, o_div, o_mod, o_pow, o_lt_i, o_lt_s, o_le_i, o_le_s, o_gt_i, o_ge_i, o_ix_l, o_ix_t, o_ixK, o_len_l, o_len_t, o_len_s, o_int_i, o_int_b, o_abs, o_max, o_min, o_lst_l, o_lst_t, o_tup_l, o_tup_t, List.map_cons, List.map_nil, List.append_nil, List.nil_append, List.cons_append, List.length_cons, List.length_nil, List.getElem?_cons_zero, List.getElem?_cons_succ, List.set_cons_zero, List.set_cons_succ, if_true, if_false, List.replicate_zero, List.replicate_succ, List.length_set, Bool.not_true, Bool.not_false, decide_true, decide_false, true_and, and_true, Nat.reduceAdd, Nat.reduceLT, Nat.reduceLeDiff, reduceIte, reduceCtorEq, e1, ne_eq, Nat.reduceEqDiff, not_false_eq_true]
theorem parts_none : partsL [] = [[]] := by
  have h1 : (partsL []).length = 1 := parts_count []
  match hp : partsL [], h1 with
  | [x], _ =>
    have : x ∈ partsL [] := by rw [hp]; exact List.mem_cons_self ..
    rw [List.sublist_nil.mp (mem_parts.mp this)]
theorem shown_none : PyData.shown (.tuple (lotsD [[]])) = "((),)" := by decide +kernel
theorem head_c {ns : List Str} (on : ∀ z ∈ ns, nameL z = true) (short : ns.length ≤ 5) :
    headC ⟨[s0, s1, some .bx, some (.d (.list (strsD ns))), some (.own (lotsD (partsL ns))), o5, o6, o7, o8, o9, o10, o11, o12, o13, o14, none, none], b⟩ = some (.nx, ⟨[s0, s1, some .bx, some (.d (.list (strsD ns))), some (.own (lotsD (partsL ns))), o5, o6, o7, o8, o9, o10, o11, o12, o13, o14, none, none], b⟩) := by
  have p1 : f_parts_of [.d (.tuple (strsD ns))] b = _ := f_parts_is (l := ns) (by omega)
  have p2 : f_parts_of [.d (.tuple [])] b = some (.d (.tuple (lotsD (partsL []))), b) := f_parts_is (l := []) (by show 0 ≤ 9; decide)
  rw [parts_none] at p2
  have r1 := repr_lots (ls := partsL ns) (fun l h => by
    have s := mem_parts.mp h
    exact ⟨fun z m => on z (s.subset m), Nat.le_trans s.length_le (by omega)⟩) (by
    rw [parts_count]
    exact Nat.le_trans (Nat.pow_le_pow_right (by decide) short) (by decide))
  have r2 := repr_lots (ls := [[]]) (fun l h => by
    rw [List.mem_singleton.mp h]
    exact ⟨fun z m => (by cases m), Nat.zero_le _⟩) (by show 1 ≤ 150; decide)
  rw [shown_none] at r2
  generalize hQ : lotsD [[]] = Q at p2 r2
  have c0 : ([] : List PyData).length ≤ 100000 := by show 0 ≤ 100000; decide
  have c0' : 0 ≤ 100000 := by decide
  unfold headC
  simp only [e_op4, e_op3, e_op2, e_op1, e_op, e_un2, e_un1, e_un, e_seq_nx, e_seq_rt, e_seq_bk, e_seq_ct, e_seq, e_nx, e_bk, e_ct, e_put, e_set1, e_set, e_drop1, e_drop, e_ret1, e_ret, e_retN, e_if_t, e_if_f, e_ifS, e_ifE, e_test1, e_test, e_not1, e_not, e_and_t, e_and_f, e_and, e_or_t, e_or_f, e_or, e_andV_t, e_andV_f, e_andV, e_orV_t, e_orV_f, e_orV, e_notV1, e_notV, e_nil, e_cons2, e_cons1, e_cons, e_tk2, e_tk1, e_tk0, e_tk, e_tup2, e_tup1, e_tup, e_lst2, e_lst1, e_lst, e_da1, e_da0, e_da, e_cb2, e_cb1, e_cb, e_v_d, e_v_o, e_v_b, e_v, e_c, e_h_d, e_h_f, e_h_s, e_h_b, e_at1, e_at, e_lm, e_d_d, e_d_f, e_d_s, e_d_b, e_ts, e_t_d, e_t_f, e_t_s, e_p_d, e_p_l, e_p_t, e_put_d, e_put_f, e_put_b, e_bx1, e_bx, e_ap2, e_ap1, e_ap0, e_apS, e_ap, e_arg2, e_arg1, e_arg0, e_arg_b, e_arg_d, e_arg_s, e_cl3, e_cl2, e_cl1, e_cl, e_rv_d, e_rv_o, e_rv_b, e_df2, e_df_r, e_df_n, e_df, e_om, e_r_d, e_r_f, e_r_s, e_r_b, e_ff_n, e_ff_c, e_ff_b, e_ff_r, e_fg, e_fr1, e_fr, e_nm, e_im, e_it2, e_it1, e_it, e_i_l, e_i_t, e_lc3, e_lc1, e_lc, e_io1, e_io, e_iv2, e_iv_d, e_iv_o, e_iv, e_ch6, e_ch5, e_ch4t, e_ch4f, e_ch3, e_ch2, e_ch1, e_ch, e_so_d, e_so_f, e_pr3, e_pr2, e_pr1, e_pr, e_sl4, e_sl3, e_sl2, e_sl1, e_sl, e_nop, e_pt1, e_pt, o_sl_l, o_sl_t, e_yes, e_wp, e_wp0, e_wp1, e_re0, e_re1, e_kd_d, e_kd_o, e_kd_b, e_kd_n, o_add_i, o_add_s, o_add_l, o_add_t, o_sub, o_mul, o_div, o_mod, o_pow, o_lt_i, o_lt_s, o_le_i, o_le_s, o_gt_i, o_ge_i, o_ix_l, o_ix_t, o_ixK, o_len_l, o_len_t, o_len_s, o_int_i, o_int_b, o_abs, o_max, o_min, o_lst_l, o_lst_t, o_tup_l, o_tup_t, List.map_cons, List.map_nil, List.append_nil, List.nil_append, List.cons_append, List.length_cons, List.length_nil, List.getElem?_cons_zero, List.getElem?_cons_succ, List.set_cons_zero, List.set_cons_succ, if_true, if_false, List.replicate_zero, List.replicate_succ, List.length_set, Bool.not_true, Bool.not_false, decide_true, decide_false, true_and, and_true, Nat.reduceAdd, Nat.reduceLT, Nat.reduceLeDiff, reduceIte, reduceCtorEq, p1, r1, c0, c0', p2, r2, ne_same]
theorem head_d {ns : List Str} {s3 s5 : Option SV} (hb : Bx b) (on : ∀ z ∈ ns, nameL z = true) (od : Ord ns) (short : ns.length ≤ 5) : ∃ t o7' d8 o14' b', Bx b' ∧
    headD ⟨[s0, s1, some .bx, s3, some (.own (lotsD (partsL ns))), s5, o6, o7, o8, o9, o10, o11, o12, o13, o14, none, none], b⟩ = some (.nx, ⟨[s0, s1, some .bx, s3, some (.d (.list (lotsD (partsL ns)))), s5, some (.d (.int t)), o7', some (.d d8), o9, o10, o11, o12, o13, o14', none, none], b'⟩) := by
  obtain ⟨t, o7', d8, o14', b', hb', e⟩ := turn_loop (s0 := s0) (s1 := s1) (s3 := s3) (s5 := s5) (o9 := o9) (o10 := o10) (o11 := o11) (o12 := o12) (o13 := o13) on od short [0, 1, 2, 3] (some (.own (lotsD (partsL ns)))) o6 o7 o8 o14 b hb (.inl rfl) nofun
  have e' : forFold (dName 6) turnBody (rngI 0 4) ⟨[s0, s1, some .bx, s3, some (.own (lotsD (partsL ns))), s5, o6, o7, o8, o9, o10, o11, o12, o13, o14, none, none], b⟩ = _ := e
  refine ⟨t, o7', d8, o14', b', hb', ?_⟩
  have rg : dRng1 (dCons (dC (.int 4)) dNil) ⟨[s0, s1, some .bx, s3, some (.own (lotsD (partsL ns))), s5, o6, o7, o8, o9, o10, o11, o12, o13, o14, none, none], b⟩ = some (rngI 0 4, ⟨[s0, s1, some .bx, s3, some (.own (lotsD (partsL ns))), s5, o6, o7, o8, o9, o10, o11, o12, o13, o14, none, none], b⟩) := rng1_eq (n := 4) (by simp only [e_op4, e_op3, e_op2, e_op1, e_op, e_un2, e_un1, e_un, e_seq_nx, e_seq_rt, e_seq_bk, e_seq_ct, e_seq, e_nx, e_bk, e_ct, e_put, e_set1, e_set, e_drop1, e_drop, e_ret1, e_ret, e_retN, e_if_t, e_if_f, e_ifS, e_ifE, e_test1, e_test, e_not1, e_not, e_and_t, e_and_f, e_and, e_or_t, e_or_f, e_or, e_andV_t, e_andV_f, e_andV, e_orV_t, e_orV_f, e_orV, e_notV1, e_notV, e_nil, e_cons2, e_cons1, e_cons, e_tk2, e_tk1, e_tk0, e_tk, e_tup2, e_tup1, e_tup, e_lst2, e_lst1, e_lst, e_da1, e_da0, e_da, e_cb2, e_cb1, e_cb, e_v_d, e_v_o, e_v_b, e_v, e_c, e_h_d, e_h_f, e_h_s, e_h_b, e_at1, e_at, e_lm, e_d_d, e_d_f, e_d_s, e_d_b, e_ts, e_t_d, e_t_f, e_t_s, e_p_d, e_p_l, e_p_t, e_put_d, e_put_f, e_put_b, e_bx1, e_bx, e_ap2, e_ap1, e_ap0, e_apS, e_ap, e_arg2, e_arg1, e_arg0, e_arg_b, e_arg_d, e_arg_s, e_cl3, e_cl2, e_cl1, e_cl, e_rv_d, e_rv_o, e_rv_b, e_df2, e_df_r, e_df_n, e_df, e_om, e_r_d, e_r_f, e_r_s, e_r_b, e_ff_n, e_ff_c, e_ff_b, e_ff_r, e_fg, e_fr1, e_fr, e_nm, e_im, e_it2, e_it1, e_it, e_i_l, e_i_t, e_lc3, e_lc1, e_lc, e_io1, e_io, e_iv2, e_iv_d, e_iv_o, e_iv, e_ch6, e_ch5, e_ch4t, e_ch4f, e_ch3, e_ch2, e_ch1, e_ch, e_so_d, e_so_f, e_pr3, e_pr2, e_pr1, e_pr, e_sl4, e_sl3, e_sl2, e_sl1, e_sl, e_nop, e_pt1, e_pt, o_sl_l, o_sl_t, e_yes, e_wp, e_wp0, e_wp1, e_re0, e_re1, e_kd_d, e_kd_o, e_kd_b, e_kd_n, o_add_i, o_add_s, o_add_l, o_add_t, o_sub, o_mul, o_div, o_mod, o_pow, o_lt_i, o_lt_s, o_le_i, o_le_s, o_gt_i, o_ge_i, o_ix_l, o_ix_t, o_ixK, o_len_l, o_len_t, o_len_s, o_int_i, o_int_b, o_abs, o_max, o_min, o_lst_l, o_lst_t, o_tup_l, o_tup_t, List.map_cons, List.map_nil, List.append_nil, List.nil_append, List.cons_append, List.length_cons, List.length_nil, List.getElem?_cons_zero, List.getElem?_cons_succ, List.set_cons_zero, List.set_cons_succ, if_true, if_false, List.replicate_zero, List.replicate_succ, List.length_set, Bool.not_true, Bool.not_false, decide_true, decide_false, true_and, and_true, Nat.reduceAdd, Nat.reduceLT, Nat.reduceLeDiff, reduceIte, reduceCtorEq]) (by decide)
  unfold headD
  rw [e_fr, rg, e_fr1]
  exact e'
theorem look_d {ns : List Str} {row : List (List Str)} {s3 s4 s5 : Option SV} (on : ∀ z ∈ ns, nameL z = true) (od : Ord ns) (short : ns.length ≤ 5) (hr : ∀ l ∈ row, l.Sublist ns) (few : row.length ≤ 12) :
    lookD ⟨[s0, s1, some .bx, s3, s4, s5, o6, o7, o8, some (.own (lotsD row)), o10, o11, some (.own (lotsD (leastD ns row))), some (.own (lotsD (greatestD ns row))), o14, none, none], b⟩ = some (.nx, ⟨[s0, s1, some .bx, s3, s4, s5, some (.d (.int 1)), o7, o8, some (.d (.list (lotsD row))), o10, o11, some (.own (lotsD (leastD ns row))), some (.own (lotsD (greatestD ns row))), o14, none, none], b⟩) := by
  have e1 := look_is (s0 := s0) (s1 := s1) (s3 := s3) (s4 := s4) (s5 := s5) (o6 := some (.d (.int 0))) (o7 := o7) (o8 := o8) (o10 := o10) (o11 := o11) (o14 := o14) (b := b) on od short hr few (.inl rfl)
  have e2 := look_is (s0 := s0) (s1 := s1) (s3 := s3) (s4 := s4) (s5 := s5) (o6 := some (.d (.int 1))) (o7 := o7) (o8 := o8) (o10 := o10) (o11 := o11) (o14 := o14) (b := b) on od short hr few (.inr rfl)
  have rg : dRng1 (dCons (dC (.int 2)) dNil) ⟨[s0, s1, some .bx, s3, s4, s5, o6, o7, o8, some (.own (lotsD row)), o10, o11, some (.own (lotsD (leastD ns row))), some (.own (lotsD (greatestD ns row))), o14, none, none], b⟩ = some (rngI 0 2, ⟨[s0, s1, some .bx, s3, s4, s5, o6, o7, o8, some (.own (lotsD row)), o10, o11, some (.own (lotsD (leastD ns row))), some (.own (lotsD (greatestD ns row))), o14, none, none], b⟩) := rng1_eq (n := 2) (by simp only [e_op4, e_op3, e_op2, e_op1, e_op, e_un2, e_un1, e_un, e_seq_nx, e_seq_rt, e_seq_bk, e_seq_ct, e_seq, e_nx, e_bk, e_ct, e_put, e_set1, e_set, e_drop1, e_drop, e_ret1, e_ret, e_retN, e_if_t, e_if_f, e_ifS, e_ifE, e_test1, e_test, e_not1, e_not, e_and_t, e_and_f, e_and, e_or_t, e_or_f, e_or, e_andV_t, e_andV_f, e_andV, e_orV_t, e_orV_f, e_orV, e_notV1, e_notV, e_nil, e_cons2, e_cons1, e_cons, e_tk2, e_tk1, e_tk0, e_tk, e_tup2, e_tup1, e_tup, e_lst2, e_lst1, e_lst, e_da1, e_da0, e_da, e_cb2, e_cb1, e_cb, e_v_d, e_v_o, e_v_b, e_v, e_c, e_h_d, e_h_f, e_h_s, e_h_b, e_at1, e_at, e_lm, e_d_d, e_d_f, e_d_s, e_d_b, e_ts, e_t_d, e_t_f, e_t_s, e_p_d, e_p_l, e_p_t, e_put_d, e_put_f, e_put_b, e_bx1, e_bx, e_ap2, e_ap1, e_ap0, e_apS, e_ap, e_arg2, e_arg1, e_arg0, e_arg_b, e_arg_d, e_arg_s, e_cl3, e_cl2, e_cl1, e_cl, e_rv_d, e_rv_o, e_rv_b, e_df2, e_df_r, e_df_n, e_df, e_om, e_r_d, e_r_f, e_r_s, e_r_b, e_ff_n, e_ff_c, e_ff_b, e_ff_r, e_fg, e_fr1, e_fr, e_nm, e_im, e_it2, e_it1, e_it, e_i_l, e_i_t, e_lc3, e_lc1, e_lc, e_io1, e_io, e_iv2, e_iv_d, e_iv_o, e_iv, e_ch6, e_ch5, e_ch4t, e_ch4f, e_ch3, e_ch2, e_ch1, e_ch, e_so_d, e_so_f, e_pr3, e_pr2, e_pr1, e_pr, e_sl4, e_sl3, e_sl2, e_sl1, e_sl, e_nop, e_pt1, e_pt, o_sl_l, o_sl_t, e_yes, e_wp, e_wp0, e_wp1, e_re0, e_re1, e_kd_d, e_kd_o, e_kd_b, e_kd_n, o_add_i, o_add_s, o_add_l, o_add_t, o_sub, o_mul, o_div, o_mod, o_pow, o_lt_i, o_lt_s, o_le_i, o_le_s, o_gt_i, o_ge_i, o_ix_l, o_ix_t, o_ixK, o_len_l, o_len_t, o_len_s, o_int_i, o_int_b, o_abs, o_max, o_min, o_lst_l, o_lst_t, o_tup_l, o_tup_t, List.map_cons, List.map_nil, List.append_nil, List.nil_append, List.cons_append, List.length_cons, List.length_nil, List.getElem?_cons_zero, List.getElem?_cons_succ, List.set_cons_zero, List.set_cons_succ, if_true, if_false, List.replicate_zero, List.replicate_succ, List.length_set, Bool.not_true, Bool.not_false, decide_true, decide_false, true_and, and_true, Nat.reduceAdd, Nat.reduceLT, Nat.reduceLeDiff, reduceIte, reduceCtorEq]) (by decide)
  have r2 : rngI 0 2 = [.int 0, .int 1] := rfl
  rw [r2] at rg
  unfold lookD
  rw [e_fr, rg, e_fr1, for_cons]
  simp only [e_op4, e_op3, e_op2, e_op1, e_op, e_un2, e_un1, e_un, e_seq_nx, e_seq_rt, e_seq_bk, e_seq_ct, e_seq, e_nx, e_bk, e_ct, e_put, e_set1, e_set, e_drop1, e_drop, e_ret1, e_ret, e_retN, e_if_t, e_if_f, e_ifS, e_ifE, e_test1, e_test, e_not1, e_not, e_and_t, e_and_f, e_and, e_or_t, e_or_f, e_or, e_andV_t, e_andV_f, e_andV, e_orV_t, e_orV_f, e_orV, e_notV1, e_notV, e_nil, e_cons2, e_cons1, e_cons, e_tk2, e_tk1, e_tk0, e_tk, e_tup2, e_tup1, e_tup, e_lst2, e_lst1, e_lst, e_da1, e_da0, e_da, e_cb2, e_cb1, e_cb, e_v_d, e_v_o, e_v_b, e_v, e_c, e_h_d, e_h_f, e_h_s, e_h_b, e_at1, e_at, e_lm, e_d_d, e_d_f, e_d_s, e_d_b, e_ts, e_t_d, e_t_f, e_t_s, e_p_d, e_p_l, e_p_t, e_put_d, e_put_f, e_put_b, e_bx1, e_bx, e_ap2, e_ap1, e_ap0, e_apS, e_ap, e_arg2, e_arg1, e_arg0, e_arg_b, e_arg_d, e_arg_s, e_cl3, e_cl2, e_cl1, e_cl, e_rv_d, e_rv_o, e_rv_b, e_df2, e_df_r, e_df_n, e_df, e_om, e_r_d, e_r_f, e_r_s, e_r_b, e_ff_n, e_ff_c, e_ff_b, e_ff_r, e_fg, e_fr1, e_fr, e_nm, e_im, e_it2, e_it1, e_it, e_i_l, e_i_t, e_lc3, e_lc1, e_lc, e_io1, e_io, e_iv2, e_iv_d, e_iv_o, e_iv, e_ch6, e_ch5, e_ch4t, e_ch4f, e_ch3, e_ch2, e_ch1, e_ch, e_so_d, e_so_f, e_pr3, e_pr2, e_pr1, e_pr, e_sl4, e_sl3, e_sl2, e_sl1, e_sl, e_nop, e_pt1, e_pt, o_sl_l, o_sl_t, e_yes, e_wp, e_wp0, e_wp1, e_re0, e_re1, e_kd_d, e_kd_o, e_kd_b, e_kd_n, o_add_i, o_add_s, o_add_l, o_add_t, o_sub, o_mul, o_div, o_mod, o_pow, o_lt_i, o_lt_s, o_le_i, o_le_s, o_gt_i, o_ge_i, o_ix_l, o_ix_t, o_ixK, o_len_l, o_len_t, o_len_s, o_int_i, o_int_b, o_abs, o_max, o_min, o_lst_l, o_lst_t, o_tup_l, o_tup_t, List.map_cons, List.map_nil, List.append_nil, List.nil_append, List.cons_append, List.length_cons, List.length_nil, List.getElem?_cons_zero, List.getElem?_cons_succ, List.set_cons_zero, List.set_cons_succ, if_true, if_false, List.replicate_zero, List.replicate_succ, List.length_set, Bool.not_true, Bool.not_false, decide_true, decide_false, true_and, and_true, Nat.reduceAdd, Nat.reduceLT, Nat.reduceLeDiff, reduceIte, reduceCtorEq, e1]
  rw [for_cons]
  simp only [e_op4, e_op3, e_op2, e_op1, e_op, e_un2, e_un1, e_un, e_seq_nx, e_seq_rt, e_seq_bk, e_seq_ct, e_seq, e_nx, e_bk, e_ct, e_put, e_set1, e_set, e_drop1, e_drop, e_ret1, e_ret, e_retN, e_if_t, e_if_f, e_ifS, e_ifE, e_test1, e_test, e_not1, e_not, e_and_t, e_and_f, e_and, e_or_t, e_or_f, e_or, e_andV_t, e_andV_f, e_andV, e_orV_t, e_orV_f, e_orV, e_notV1, e_notV, e_nil, e_cons2, e_cons1, e_cons, e_tk2, e_tk1, e_tk0, e_tk, e_tup2, e_tup1, e_tup, e_lst2, e_lst1, e_lst, e_da1, e_da0, e_da, e_cb2, e_cb1, e_cb, e_v_d, e_v_o, e_v_b, e_v, e_c, e_h_d, e_h_f, e_h_s, e_h_b, e_at1, e_at, e_lm, e_d_d, e_d_f, e_d_s, e_d_b, e_ts, e_t_d, e_t_f, e_t_s, e_p_d, e_p_l, e_p_t, e_put_d, e_put_f, e_put_b, e_bx1, e_bx, e_ap2, e_ap1, e_ap0, e_apS, e_ap, e_arg2, e_arg1, e_arg0, e_arg_b, e_arg_d, e_arg_s, e_cl3, e_cl2, e_cl1, e_cl, e_rv_d, e_rv_o, e_rv_b, e_df2, e_df_r, e_df_n, e_df, e_om, e_r_d, e_r_f, e_r_s, e_r_b, e_ff_n, e_ff_c, e_ff_b, e_ff_r, e_fg, e_fr1, e_fr, e_nm, e_im, e_it2, e_it1, e_it, e_i_l, e_i_t, e_lc3, e_lc1, e_lc, e_io1, e_io, e_iv2, e_iv_d, e_iv_o, e_iv, e_ch6, e_ch5, e_ch4t, e_ch4f, e_ch3, e_ch2, e_ch1, e_ch, e_so_d, e_so_f, e_pr3, e_pr2, e_pr1, e_pr, e_sl4, e_sl3, e_sl2, e_sl1, e_sl, e_nop, e_pt1, e_pt, o_sl_l, o_sl_t, e_yes, e_wp, e_wp0, e_wp1, e_re0, e_re1, e_kd_d, e_kd_o, e_kd_b, e_kd_n, o_add_i, o_add_s, o_add_l, o_add_t, o_sub, o_mul, o_div, o_mod, o_pow, o_lt_i, o_lt_s, o_le_i, o_le_s, o_gt_i, o_ge_i, o_ix_l, o_ix_t, o_ixK, o_len_l, o_len_t, o_len_s, o_int_i, o_int_b, o_abs, o_max, o_min, o_lst_l, o_lst_t, o_tup_l, o_tup_t, List.map_cons, List.map_nil, List.append_nil, List.nil_append, List.cons_append, List.length_cons, List.length_nil, List.getElem?_cons_zero, List.getElem?_cons_succ, List.set_cons_zero, List.set_cons_succ, if_true, if_false, List.replicate_zero, List.replicate_succ, List.length_set, Bool.not_true, Bool.not_false, decide_true, decide_false, true_and, and_true, Nat.reduceAdd, Nat.reduceLT, Nat.reduceLeDiff, reduceIte, reduceCtorEq, e2]
  rfl
noncomputable def bodyK : DS := dSeq headA (dSeq headB (dSeq headC (dSeq headD (dSeq rowA (dSeq rowB (dSeq rowC (dSeq rowD (dSeq rowE (dSeq lookD (dSeq keptC (dSeq wideC (dSeq nameA nameC))))))))))))
theorem body_is (hb : Bx b) : ∃ p3 p4 p5 p6 p7 p8 p9 p10 p11 p12 p13 p14 b', 
    bodyK ⟨[s0, s1, some .bx, o3, o4, o5, o6, o7, o8, o9, o10, o11, o12, o13, o14, none, none], b⟩ = some (.nx, ⟨[s0, s1, some .bx, p3, p4, p5, p6, p7, p8, p9, p10, p11, p12, p13, p14, none, none], b'⟩) := by
  obtain ⟨ns, b1, hb1, on, od, short, h0, e1⟩ := head_a (s0 := s0) (s1 := s1) (o3 := o3) (o4 := o4) (o5 := o5) (o6 := o6) (o7 := o7) (o8 := o8) (o9 := o9) (o10 := o10) (o11 := o11) (o12 := o12) (o13 := o13) (o14 := o14) hb
  have e2 := head_b (s0 := s0) (s1 := s1) (o4 := o4) (o5 := o5) (o6 := o6) (o7 := o7) (o8 := o8) (o9 := o9) (o10 := o10) (o11 := o11) (o12 := o12) (o13 := o13) (o14 := o14) (b := b1) short
  have e3 := head_c (s0 := s0) (s1 := s1) (o5 := some (.own (strsD ns))) (o6 := o6) (o7 := o7) (o8 := o8) (o9 := o9) (o10 := o10) (o11 := o11) (o12 := o12) (o13 := o13) (o14 := o14) (b := b1) on short
  obtain ⟨t, q7, d8, q14, b2, hb2, e4⟩ := head_d (s0 := s0) (s1 := s1) (s3 := some (.d (.list (strsD ns)))) (s5 := some (.own (strsD ns))) (o6 := o6) (o7 := o7) (o8 := o8) (o9 := o9) (o10 := o10) (o11 := o11) (o12 := o12) (o13 := o13) (o14 := o14) hb1 on od short
  obtain ⟨row0, b3, hb3, hr0, few0, e5⟩ := row_a (s0 := s0) (s1 := s1) (s3 := some (.d (.list (strsD ns)))) (s5 := some (.own (strsD ns))) (o7 := q7) (o8 := some (.d d8)) (o9 := o9) (o10 := o10) (o11 := o11) (o12 := o12) (o13 := o13) (o14 := q14) (t := t) hb2 short
  obtain ⟨row, b4, hb4, hr, few, e6⟩ := row_b (s0 := s0) (s1 := s1) (s3 := some (.d (.list (strsD ns)))) (s5 := some (.own (strsD ns))) (o7 := q7) (o8 := some (.d d8)) (o10 := o10) (o11 := o11) (o12 := o12) (o13 := o13) (o14 := q14) (t := t) hb3 few0 hr0
  have e7 := row_c (s0 := s0) (s1 := s1) (s3 := some (.d (.list (strsD ns)))) (s5 := some (.own (strsD ns))) (o7 := q7) (o8 := some (.d d8)) (o10 := o10) (o11 := o11) (o12 := o12) (o13 := o13) (o14 := q14) (t := t) (b := b4) on hr short
  have e8 := row_d (s0 := s0) (s1 := s1) (s3 := some (.d (.list (strsD ns)))) (s5 := some (.own (strsD ns))) (o7 := q7) (d8 := d8) (o10 := some (.own (lotsD row))) (o12 := o12) (o13 := o13) (o14 := q14) (t := t) (b := b4) on hr short
  have e9 := row_e (s0 := s0) (s1 := s1) (s3 := some (.d (.list (strsD ns)))) (s5 := some (.own (strsD ns))) (o7 := q7) (d8 := d8) (o10 := some (.own (lotsD row))) (o12 := some (.own (lotsD (leastD ns row)))) (o13 := o13) (o14 := q14) (t := t) (b := b4) on hr short
  have e10 := look_d (s0 := s0) (s1 := s1) (s3 := some (.d (.list (strsD ns)))) (s4 := some (.d (.list (lotsD (partsL ns))))) (s5 := some (.own (strsD ns))) (o6 := some (.d (.int t))) (o7 := q7) (o8 := some (.d d8)) (o10 := some (.own (lotsD row))) (o11 := some (.own (lotsD (someOf ns row)))) (o14 := q14) (b := b4) on od short hr few
  have e11 := kept_is (s0 := s0) (s1 := s1) (s4 := some (.d (.list (lotsD (partsL ns))))) (o6 := some (.d (.int 1))) (o7 := q7) (o8 := some (.d d8)) (o11 := some (.own (lotsD (someOf ns row)))) (o12 := some (.own (lotsD (leastD ns row)))) (o13 := some (.own (lotsD (greatestD ns row)))) (o14 := q14) (b := b4) on hr
  obtain ⟨b5, hb5, e12⟩ := wide_step (s0 := s0) (s1 := s1) (s3 := some (.d (.list (strsD ns)))) (s4 := some (.d (.list (lotsD (partsL ns))))) (s5 := some (.own (strsD ns))) (o6 := some (.d (.int 1))) (o7 := q7) (o8 := some (.d d8)) (o9 := some (.d (.list (lotsD row)))) (o10 := some (.own (lotsD row))) (o11 := some (.own (lotsD (someOf ns row)))) (o12 := some (.own (lotsD (leastD ns row)))) (o13 := some (.own (lotsD (greatestD ns row)))) (o14 := q14) hb4
  obtain ⟨z, b6, hb6, hz, e13⟩ := name_step (s0 := s0) (s1 := s1) (s4 := some (.d (.list (lotsD (partsL ns))))) (s5 := some (.own (strsD ns))) (o6 := some (.d (.int 1))) (o7 := q7) (o8 := some (.d d8)) (o9 := some (.d (.list (lotsD row)))) (o10 := some (.own (lotsD row))) (o11 := some (.own (lotsD (someOf ns row)))) (o12 := some (.own (lotsD (leastD ns row)))) (o13 := some (.own (lotsD (greatestD ns row)))) (o14 := q14) hb5 on short h0
  obtain ⟨b7, hb7, e14⟩ := name_check (s0 := s0) (s1 := s1) (s3 := some (.d (.list (strsD ns)))) (s4 := some (.d (.list (lotsD (partsL ns))))) (s5 := some (.own (strsD ns))) (o6 := some (.d (.int 1))) (o7 := q7) (o8 := some (.d d8)) (o9 := some (.d (.list (lotsD row)))) (o10 := some (.own (lotsD row))) (o11 := some (.own (lotsD (someOf ns row)))) (o12 := some (.own (lotsD (leastD ns row)))) (o13 := some (.own (lotsD (greatestD ns row)))) hb6 hz
  refine ⟨some (.d (.list (strsD ns))), some (.d (.list (lotsD (partsL ns)))), some (.own (strsD ns)), some (.d (.int 1)), q7, some (.d d8), some (.d (.list (lotsD row))), some (.own (lotsD row)), some (.own (lotsD (someOf ns row))), some (.own (lotsD (leastD ns row))), some (.own (lotsD (greatestD ns row))), some (.d (.str z)), b7, ?_⟩
  unfold bodyK
  rw [e_seq, e1, e_seq_nx, e_seq, e2, e_seq_nx, e_seq, e3, e_seq_nx, e_seq, e4, e_seq_nx, e_seq, e5, e_seq_nx, e_seq, e6, e_seq_nx, e_seq, e7, e_seq_nx, e_seq, e8, e_seq_nx, e_seq, e9, e_seq_nx, e_seq, e10, e_seq_nx, e_seq, e11, e_seq_nx, e_seq, e12, e_seq_nx, e_seq, e13, e_seq_nx]
  exact e14
end
theorem blk_is {i : Nat} {f : DF} {g : DS} {s s1 s2 : SS} {ns : List Int} (hb : s.b = []) (hf : f s = some (.fresh (ns.map .int), s1)) (h0 : ns ≠ []) (hi : i < s1.e.length) (hg : g ⟨s1.e.set i (some .bx), ns⟩ = some (.nx, s2)) : dBlk i f g s = some (.nx, s2.noBox) := by
  have ei : ∀ l : List Int, intsOf (l.map PyData.int) = some l := fun l => by
    induction l with
    | nil => rfl
    | cons x l ih =>
      show (intsOf (l.map PyData.int)).map _ = _
      rw [ih]
      rfl
  unfold dBlk
  rw [if_pos hb, hf]
  show ((intsOf (ns.map PyData.int)).bind _) = _
  rw [ei, Option.bind_some, if_pos ⟨h0, hi⟩, hg]
  rfl
noncomputable def lawBody : DS := dBlk 2 (dCall f__law_box (dCons (dV 0) (dCons (dV 1) dNil))) bodyK
theorem k_loop {ns : List Int} (hl : ns.length < 1000) : ∀ (ks : List Int) (o1 o2 o3 o4 o5 o6 o7 o8 o9 o10 o11 o12 o13 o14 : Option SV), (∀ k ∈ ks, 0 ≤ k ∧ k < 1000) → ∃ s, 
    forFold (dName 1) lawBody (ks.map PyData.int) ⟨[some (.d (.list (ns.map .int))), o1, o2, o3, o4, o5, o6, o7, o8, o9, o10, o11, o12, o13, o14, none, none], []⟩ = some (.nx, ⟨s, []⟩)
  | [], o1, o2, o3, o4, o5, o6, o7, o8, o9, o10, o11, o12, o13, o14, _ => ⟨_, rfl⟩
  | k :: ks, o1, o2, o3, o4, o5, o6, o7, o8, o9, o10, o11, o12, o13, o14, h => by
    have hk := h k (List.mem_cons_self ..)
    obtain ⟨u, v, e1⟩ := box_is (ns := ns) (k := k) hk.1 hk.2 hl
    obtain ⟨p3, p4, p5, p6, p7, p8, p9, p10, p11, p12, p13, p14, b', e2⟩ := body_is (s0 := some (.d (.list (ns.map .int)))) (s1 := some (.d (.int k))) (o3 := o3) (o4 := o4) (o5 := o5) (o6 := o6) (o7 := o7) (o8 := o8) (o9 := o9) (o10 := o10) (o11 := o11) (o12 := o12) (o13 := o13) (o14 := o14) (b := [u, v, 0]) ⟨u, v, 0, rfl⟩
    have e3 : lawBody ⟨[some (.d (.list (ns.map .int))), some (.d (.int k)), o2, o3, o4, o5, o6, o7, o8, o9, o10, o11, o12, o13, o14, none, none], []⟩ = _ := blk_is (i := 2) (ns := [u, v, 0]) (s1 := ⟨[some (.d (.list (ns.map .int))), some (.d (.int k)), o2, o3, o4, o5, o6, o7, o8, o9, o10, o11, o12, o13, o14, none, none], []⟩) rfl (by simp only [e_op4, e_op3, e_op2, e_op1, e_op, e_un2, e_un1, e_un, e_seq_nx, e_seq_rt, e_seq_bk, e_seq_ct, e_seq, e_nx, e_bk, e_ct, e_put, e_set1, e_set, e_drop1, e_drop, e_ret1, e_ret, e_retN, e_if_t, e_if_f, e_ifS, e_ifE, e_test1, e_test, e_not1, e_not, e_and_t, e_and_f, e_and, e_or_t, e_or_f, e_or, e_andV_t, e_andV_f, e_andV, e_orV_t, e_orV_f, e_orV, e_notV1, e_notV, e_nil, e_cons2, e_cons1, e_cons, e_tk2, e_tk1, e_tk0, e_tk, e_tup2, e_tup1, e_tup, e_lst2, e_lst1, e_lst, e_da1, e_da0, e_da, e_cb2, e_cb1, e_cb, e_v_d, e_v_o, e_v_b, e_v, e_c, e_h_d, e_h_f, e_h_s, e_h_b, e_at1, e_at, e_lm, e_d_d, e_d_f, e_d_s, e_d_b, e_ts, e_t_d, e_t_f, e_t_s, e_p_d, e_p_l, e_p_t, e_put_d, e_put_f, e_put_b, e_bx1, e_bx, e_ap2, e_ap1, e_ap0, e_apS, e_ap, e_arg2, e_arg1, e_arg0, e_arg_b, e_arg_d, e_arg_s, e_cl3, e_cl2, e_cl1, e_cl, e_rv_d, e_rv_o, e_rv_b, e_df2, e_df_r, e_df_n, e_df, e_om, e_r_d, e_r_f, e_r_s, e_r_b, e_ff_n, e_ff_c, e_ff_b, e_ff_r, e_fg, e_fr1, e_fr, e_nm, e_im, e_it2, e_it1, e_it, e_i_l, e_i_t, e_lc3, e_lc1, e_lc, e_io1, e_io, e_iv2, e_iv_d, e_iv_o, e_iv, e_ch6, e_ch5, e_ch4t, e_ch4f, e_ch3, e_ch2, e_ch1, e_ch, e_so_d, e_so_f, e_pr3, e_pr2, e_pr1, e_pr, e_sl4, e_sl3, e_sl2, e_sl1, e_sl, e_nop, e_pt1, e_pt, o_sl_l, o_sl_t, e_yes, e_wp, e_wp0, e_wp1, e_re0, e_re1, e_kd_d, e_kd_o, e_kd_b, e_kd_n, o_add_i, o_add_s, o_add_l, o_add_t, o_sub, o_mul, o_div, o_mod, o_pow, o_lt_i, o_lt_s, o_le_i, o_le_s, o_gt_i, o_ge_i, o_ix_l, o_ix_t, o_ixK, o_len_l, o_len_t, o_len_s, o_int_i, o_int_b, o_abs, o_max, o_min, o_lst_l, o_lst_t, o_tup_l, o_tup_t, List.map_cons, List.map_nil, List.append_nil, List.nil_append, List.cons_append, List.length_cons, List.length_nil, List.getElem?_cons_zero, List.getElem?_cons_succ, List.set_cons_zero, List.set_cons_succ, if_true, if_false, List.replicate_zero, List.replicate_succ, List.length_set, Bool.not_true, Bool.not_false, decide_true, decide_false, true_and, and_true, Nat.reduceAdd, Nat.reduceLT, Nat.reduceLeDiff, reduceIte, reduceCtorEq, e1]) nofun (by show 2 < 17; decide) e2
    obtain ⟨s, e4⟩ := k_loop hl ks (some (.d (.int k))) none (noBx p3) (noBx p4) (noBx p5) (noBx p6) (noBx p7) (noBx p8) (noBx p9) (noBx p10) (noBx p11) (noBx p12) (noBx p13) (noBx p14) fun k' h' => h k' (List.mem_cons_of_mem _ h')
    refine ⟨s, ?_⟩
    have c1 : 1 < [some (SV.d (.list (ns.map .int))), o1, o2, o3, o4, o5, o6, o7, o8, o9, o10, o11, o12, o13, o14, none, none].length := by show 1 < 17; decide
    rw [List.map_cons, for_cons]
    simp only [e_op4, e_op3, e_op2, e_op1, e_op, e_un2, e_un1, e_un, e_seq_nx, e_seq_rt, e_seq_bk, e_seq_ct, e_seq, e_nx, e_bk, e_ct, e_put, e_set1, e_set, e_drop1, e_drop, e_ret1, e_ret, e_retN, e_if_t, e_if_f, e_ifS, e_ifE, e_test1, e_test, e_not1, e_not, e_and_t, e_and_f, e_and, e_or_t, e_or_f, e_or, e_andV_t, e_andV_f, e_andV, e_orV_t, e_orV_f, e_orV, e_notV1, e_notV, e_nil, e_cons2, e_cons1, e_cons, e_tk2, e_tk1, e_tk0, e_tk, e_tup2, e_tup1, e_tup, e_lst2, e_lst1, e_lst, e_da1, e_da0, e_da, e_cb2, e_cb1, e_cb, e_v_d, e_v_o, e_v_b, e_v, e_c, e_h_d, e_h_f, e_h_s, e_h_b, e_at1, e_at, e_lm, e_d_d, e_d_f, e_d_s, e_d_b, e_ts, e_t_d, e_t_f, e_t_s, e_p_d, e_p_l, e_p_t, e_put_d, e_put_f, e_put_b, e_bx1, e_bx, e_ap2, e_ap1, e_ap0, e_apS, e_ap, e_arg2, e_arg1, e_arg0, e_arg_b, e_arg_d, e_arg_s, e_cl3, e_cl2, e_cl1, e_cl, e_rv_d, e_rv_o, e_rv_b, e_df2, e_df_r, e_df_n, e_df, e_om, e_r_d, e_r_f, e_r_s, e_r_b, e_ff_n, e_ff_c, e_ff_b, e_ff_r, e_fg, e_fr1, e_fr, e_nm, e_im, e_it2, e_it1, e_it, e_i_l, e_i_t, e_lc3, e_lc1, e_lc, e_io1, e_io, e_iv2, e_iv_d, e_iv_o, e_iv, e_ch6, e_ch5, e_ch4t, e_ch4f, e_ch3, e_ch2, e_ch1, e_ch, e_so_d, e_so_f, e_pr3, e_pr2, e_pr1, e_pr, e_sl4, e_sl3, e_sl2, e_sl1, e_sl, e_nop, e_pt1, e_pt, o_sl_l, o_sl_t, e_yes, e_wp, e_wp0, e_wp1, e_re0, e_re1, e_kd_d, e_kd_o, e_kd_b, e_kd_n, o_add_i, o_add_s, o_add_l, o_add_t, o_sub, o_mul, o_div, o_mod, o_pow, o_lt_i, o_lt_s, o_le_i, o_le_s, o_gt_i, o_ge_i, o_ix_l, o_ix_t, o_ixK, o_len_l, o_len_t, o_len_s, o_int_i, o_int_b, o_abs, o_max, o_min, o_lst_l, o_lst_t, o_tup_l, o_tup_t, List.map_cons, List.map_nil, List.append_nil, List.nil_append, List.cons_append, List.length_cons, List.length_nil, List.getElem?_cons_zero, List.getElem?_cons_succ, List.set_cons_zero, List.set_cons_succ, if_true, if_false, List.replicate_zero, List.replicate_succ, List.length_set, Bool.not_true, Bool.not_false, decide_true, decide_false, true_and, and_true, Nat.reduceAdd, Nat.reduceLT, Nat.reduceLeDiff, reduceIte, reduceCtorEq, c1, e3]
    exact e4
theorem law_is {ns : List Int} (hl : ns.length < 1000) : f_law [.d (.list (ns.map .int))] [] = some (.d (.bool true), []) := by
  have eg : g_law = dSeq (dFor (dRng1 (dCons (dCB opMax (dCons (dC (.int 1)) (dCons (dCB opMin (dCons (dC (.int 3)) (dCons (dCB opLen (dCons (dV 0) dNil)) dNil))) dNil))) dNil)) (dName 1) lawBody) (dRet (dC (.bool true))) := rfl
  have ln : (ns.map PyData.int).length = ns.length := List.length_map _
  obtain ⟨n, hn, n1, n3⟩ : ∃ n : Int, dRng1 (dCons (dCB opMax (dCons (dC (.int 1)) (dCons (dCB opMin (dCons (dC (.int 3)) (dCons (dCB opLen (dCons (dV 0) dNil)) dNil))) dNil))) dNil) ⟨[some (.d (.list (ns.map .int))), none, none, none, none, none, none, none, none, none, none, none, none, none, none, none, none], []⟩ = some (rngI 0 n.toNat, ⟨[some (.d (.list (ns.map .int))), none, none, none, none, none, none, none, none, none, none, none, none, none, none, none, none], []⟩) ∧ 1 ≤ n ∧ n ≤ 3 := by
    refine ⟨if (if (((ns.map PyData.int).length : Nat) : Int) < 3 then (((ns.map PyData.int).length : Nat) : Int) else 3) > 1 then (if (((ns.map PyData.int).length : Nat) : Int) < 3 then (((ns.map PyData.int).length : Nat) : Int) else 3) else 1, rng1_eq (by simp only [e_op4, e_op3, e_op2, e_op1, e_op, e_un2, e_un1, e_un, e_seq_nx, e_seq_rt, e_seq_bk, e_seq_ct, e_seq, e_nx, e_bk, e_ct, e_put, e_set1, e_set, e_drop1, e_drop, e_ret1, e_ret, e_retN, e_if_t, e_if_f, e_ifS, e_ifE, e_test1, e_test, e_not1, e_not, e_and_t, e_and_f, e_and, e_or_t, e_or_f, e_or, e_andV_t, e_andV_f, e_andV, e_orV_t, e_orV_f, e_orV, e_notV1, e_notV, e_nil, e_cons2, e_cons1, e_cons, e_tk2, e_tk1, e_tk0, e_tk, e_tup2, e_tup1, e_tup, e_lst2, e_lst1, e_lst, e_da1, e_da0, e_da, e_cb2, e_cb1, e_cb, e_v_d, e_v_o, e_v_b, e_v, e_c, e_h_d, e_h_f, e_h_s, e_h_b, e_at1, e_at, e_lm, e_d_d, e_d_f, e_d_s, e_d_b, e_ts, e_t_d, e_t_f, e_t_s, e_p_d, e_p_l, e_p_t, e_put_d, e_put_f, e_put_b, e_bx1, e_bx, e_ap2, e_ap1, e_ap0, e_apS, e_ap, e_arg2, e_arg1, e_arg0, e_arg_b, e_arg_d, e_arg_s, e_cl3, e_cl2, e_cl1, e_cl, e_rv_d, e_rv_o, e_rv_b, e_df2, e_df_r, e_df_n, e_df, e_om, e_r_d, e_r_f, e_r_s, e_r_b, e_ff_n, e_ff_c, e_ff_b, e_ff_r, e_fg, e_fr1, e_fr, e_nm, e_im, e_it2, e_it1, e_it, e_i_l, e_i_t, e_lc3, e_lc1, e_lc, e_io1, e_io, e_iv2, e_iv_d, e_iv_o, e_iv, e_ch6, e_ch5, e_ch4t, e_ch4f, e_ch3, e_ch2, e_ch1, e_ch, e_so_d, e_so_f, e_pr3, e_pr2, e_pr1, e_pr, e_sl4, e_sl3, e_sl2, e_sl1, e_sl, e_nop, e_pt1, e_pt, o_sl_l, o_sl_t, e_yes, e_wp, e_wp0, e_wp1, e_re0, e_re1, e_kd_d, e_kd_o, e_kd_b, e_kd_n, o_add_i, o_add_s, o_add_l, o_add_t, o_sub, o_mul, o_div, o_mod, o_pow, o_lt_i, o_lt_s, o_le_i, o_le_s, o_gt_i, o_ge_i, o_ix_l, o_ix_t, o_ixK, o_len_l, o_len_t, o_len_s, o_int_i, o_int_b, o_abs, o_max, o_min, o_lst_l, o_lst_t, o_tup_l, o_tup_t, List.map_cons, List.map_nil, List.append_nil, List.nil_append, List.cons_append, List.length_cons, List.length_nil, List.getElem?_cons_zero, List.getElem?_cons_succ, List.set_cons_zero, List.set_cons_succ, if_true, if_false, List.replicate_zero, List.replicate_succ, List.length_set, Bool.not_true, Bool.not_false, decide_true, decide_false, true_and, and_true, Nat.reduceAdd, Nat.reduceLT, Nat.reduceLeDiff, reduceIte, reduceCtorEq]) ?_, ?_, ?_⟩
    · rw [ln]
      split <;> split <;> omega
    · rw [ln]
      split <;> split <;> omega
    · rw [ln]
      split <;> split <;> omega
  obtain ⟨s, e⟩ := k_loop (ns := ns) hl ((List.range n.toNat).map fun (i : Nat) => 0 + (i : Int)) none none none none none none none none none none none none none none fun k hk => by
    obtain ⟨i, hi, rfl⟩ := List.mem_map.mp hk
    have := List.mem_range.mp hi
    omega
  rw [List.map_map] at e
  have e' : forFold (dName 1) lawBody (rngI 0 n.toNat) ⟨[some (.d (.list (ns.map .int))), none, none, none, none, none, none, none, none, none, none, none, none, none, none, none, none], []⟩ = some (.nx, ⟨s, []⟩) := e
  have st : defOf 16 g_law [.d (.list (ns.map .int))] [] = dfK (g_law ⟨[some (.d (.list (ns.map .int))), none, none, none, none, none, none, none, none, none, none, none, none, none, none, none, none], []⟩) := rfl
  unfold f_law
  rw [st, eg, e_seq, e_fr, hn, e_fr1, e', e_seq_nx, e_ret, e_c, e_ret1, e_df_r]
  rfl
end XN

set_option maxRecDepth 100000
set_option maxHeartbeats 4000000
namespace XN
open PySem PySem.Spec PyProof.Rows L2 Evl
theorem run_law {P : Program} {w : World} {K : PySem.W.Frag} {mg : Str → Option Value} {base : Heap} {fa : Addr} {fd : FuncData} (F : Fun K "law" "law" s_law fa fd) (M : Bl mg) (h_is_name : Has P w K mg base 1 "is_name" ["value"] f_is_name) (h_is_lot : Has P w K mg base 2 "is_lot" ["value"] f_is_lot) (h_parts_of : Has P w K mg base 1 "parts_of" ["lot"] f_parts_of) (h_least_lots : Has P w K mg base 2 "least_lots" ["lots"] f_least_lots) (h_greatest_lots : Has P w K mg base 2 "greatest_lots" ["lots"] f_greatest_lots) (h__law_box : Has P w K mg base 1 "_law_box" ["_law_script", "_law_k"] f__law_box) (h__law_take : Has P w K mg base 1 "_law_take" ["_law_box_here", "_law_many"] f__law_take) (h__law_pick : Has P w K mg base 2 "_law_pick" ["_law_box_here", "_law_some"] f__law_pick) (h__law_names : Has P w K mg base 2 "_law_names" ["_law_box_here", "_law_many"] f__law_names) (h__law_all : Has P w K mg base 1 "_law_all" ["_law_names_here"] f__law_all) (h__law_no_names : Has P w K mg base 2 "_law_no_names" ["_law_box_here", "_law_name"] f__law_no_names) (h__law_no_lots : Has P w K mg base 2 "_law_no_lots" ["_law_box_here", "_law_lot_here"] f__law_no_lots) (h__law_pair_right : Has P w K mg base 3 "_law_pair_right" ["_law_one", "_law_other", "_law_lots"] f__law_pair_right) (h__law_inside : Has P w K mg base 1 "_law_inside" ["_law_one", "_law_other"] f__law_inside) (h__law_wide_right : Has P w K mg base 3 "_law_wide_right" ["_law_box_here"] f__law_wide_right)  : XG.FnG P w K mg base CX0 4 fa fd ["_law_script"] (spD K 1 f_law) :=
  fng_def (g := g_law) F sc_law rfl fun cdv A outer s H E hg hr => by
    have hu0 : (A.deeper (envOfC "law" (defScope s_law) s.heap.objs.size fa cdv)).units + 200 < cLine := by have := hr.un; omega
    have hu1 : (A.deeper (envOfC "law" (defScope s_law) s.heap.objs.size fa cdv)).units + 100 < cLine := by omega
    have hu2 : (A.deeper (envOfC "law" (defScope s_law) s.heap.objs.size fa cdv)).units + 64 < cLine := by omega
    have hu : (A.deeper (envOfC "law" (defScope s_law) s.heap.objs.size fa cdv)).units + 65 < cLine := by omega
    exact ⟨_, (dss_cons (ds_for PassesOwn.never rfl (di_rng1 (by rfl) M.range (da_cons (de_cb (cr_max rfl) (by rfl) M.max (by decide +kernel) (da_cons de_int (da_cons (de_cb (cr_min rfl) (by rfl) M.min (by decide +kernel) (da_cons de_int (da_cons (de_cb cr_len (by rfl) M.len (by decide +kernel) (da_cons (de_v 0) da_nil)) da_nil))) da_nil))) da_nil)) (dg_name 1 sc_law.nd) (dss_blk 2 sc_law.nd (de_call h__law_box hg (hr.mono (by decide)) (by rfl) (da_cons (de_v 0) (da_cons (de_v 1) da_nil)))
    (dss_cons (ds_set 3 sc_law.nd (de_call h__law_names hg (hr.mono (by decide)) (by rfl) (da_cons (de_v 2) (da_cons (de_bin or_add de_int (de_call h__law_take hg (hr.mono (by decide)) (by rfl) (da_cons (de_v 2) (da_cons de_int da_nil)))) da_nil))))
    (dss_cons (ds_parT 4 5 rfl sc_law.nd (de_call h__law_all hg (hr.mono (by decide)) (by rfl) (da_cons (de_v 3) da_nil)) (de_ct cr_list (by rfl) M.list_ (by decide +kernel) (da_cons (de_v 3) da_nil)))
    (dss_cons (ds_if (dt_w (dw_or (dt_cmp (or_ne hu) (de_cb (cr_repr hg hu2) (by rfl) M.repr (by decide +kernel) (da_cons (de_call h_parts_of hg (hr.mono (by decide)) (by rfl) (da_cons (de_ct cr_tup (by rfl) M.tuple_ (by decide +kernel) (da_cons (de_v 3) da_nil)) da_nil)) da_nil)) (de_cb (cr_repr hg hu2) (by rfl) M.repr (by decide +kernel) (da_cons (de_ct cr_tup (by rfl) M.tuple_ (by decide +kernel) (da_cons (de_v 4) da_nil)) da_nil))) (dw_or1 (dt_cmp (or_ne hu) (de_cb (cr_repr hg hu2) (by rfl) M.repr (by decide +kernel) (da_cons (de_call h_parts_of hg (hr.mono (by decide)) (by rfl) (da_cons (de_tup da_nil) da_nil)) da_nil)) de_str)))) (dss_one (ds_ret de_bl)) dss_nil)
    (dss_cons (ds_for PassesOwn.never rfl (di_rng1 (by rfl) M.range (da_cons de_int da_nil)) (dg_name 6 sc_law.nd) (dss_cons (ds_parT 7 8 rfl sc_law.nd (de_call h__law_pick hg (hr.mono (by decide)) (by rfl) (da_cons (de_v 2) (da_cons (de_v 4) da_nil))) (de_call h__law_pick hg (hr.mono (by decide)) (by rfl) (da_cons (de_v 2) (da_cons (de_v 4) da_nil))))
    (dss_cons (ds_if (dt_cmp (or_eq hu) (de_v 6) de_int) (dss_one (ds_set 7 sc_law.nd (de_ct cr_tup (by rfl) M.tuple_ (by decide +kernel) (da_cons (de_lc [("_law_name", 14)] rfl sc_law.nd (dio_v 7) (blkOk_by (by first | rfl | decide +kernel)) (fun _ _ _ _ _ => dgw_name 14 sc_law.nd) (fun _ _ _ _ _ => (dts_one (dt_cmp (or_in hu) (de_v 14) (de_v 8)))) (fun _ _ _ _ _ => (de_v 14))) da_nil)))) dss_nil)
    (dss_cons (ds_if (dt_w (dw_or (dt_not (dt_val (de_call h__law_pair_right hg (hr.mono (by decide)) (by rfl) (da_cons (de_v 7) (da_cons (de_v 8) (da_cons (de_v 4) da_nil)))))) (dw_or1 (dt_not (dt_val (de_call h__law_pair_right hg (hr.mono (by decide)) (by rfl) (da_cons (de_v 8) (da_cons (de_v 7) (da_cons (de_v 4) da_nil))))))))) (dss_one (ds_ret de_bl)) dss_nil)
    (dss_one (ds_if (dt_w (dw_or (dt_cmp or_isNot (de_call h_is_lot hg (hr.mono (by decide)) (by rfl) (da_cons (de_v 7) da_nil)) de_bl) (dw_or1 (dt_cmp (or_in hu) de_bl (de_lc [("_law_bad", 15)] rfl sc_law.nd (dio_of (di_any (de_call h__law_no_lots hg (hr.mono (by decide)) (by rfl) (da_cons (de_v 2) (da_cons (de_v 7) da_nil))))) (blkOk_by (by first | rfl | decide +kernel)) (fun _ _ _ _ _ => dgw_name 15 sc_law.nd) (fun _ _ _ _ _ => dts_nil) (fun _ _ _ _ _ => (de_call h_is_lot hg (hr.mono (by decide)) (by rfl) (da_cons (de_v 15) da_nil)))))))) (dss_one (ds_ret de_bl)) dss_nil))))))
    (dss_cons (ds_set 9 sc_law.nd (de_lc [("_law_turn", 6)] rfl sc_law.nd (dio_of (di_rng1 (by rfl) M.range (da_cons (de_call h__law_take hg (hr.mono (by decide)) (by rfl) (da_cons (de_v 2) (da_cons de_int da_nil))) da_nil))) (blkOk_by (by first | rfl | decide +kernel)) (fun _ _ _ _ _ => dgw_name 6 sc_law.nd) (fun _ _ _ _ _ => dts_nil) (fun _ _ _ _ _ => (de_call h__law_pick hg (hr.mono (by decide)) (by rfl) (da_cons (de_v 2) (da_cons (de_v 4) da_nil))))))
    (dss_cons (ds_set 9 sc_law.nd (de_bin or_add (de_v 9) (de_sl (de_v 9) do_none (do_some (de_call h__law_take hg (hr.mono (by decide)) (by rfl) (da_cons (de_v 2) (da_cons de_int da_nil)))))))
    (dss_cons (ds_parT 10 11 rfl sc_law.nd (de_ct cr_list (by rfl) M.list_ (by decide +kernel) (da_cons (de_v 9) da_nil)) (de_lc [("_law_lot_here", 16)] rfl sc_law.nd (dio_v 4) (blkOk_by (by first | rfl | decide +kernel)) (fun _ _ _ _ _ => dgw_name 16 sc_law.nd) (fun _ _ _ _ _ => (dts_one (dt_cmp (or_in hu) (de_v 16) (de_v 9)))) (fun _ _ _ _ _ => (de_v 16))))
    (dss_cons (ds_setLc 12 [("_law_lot_here", 16)] rfl sc_law.nd (dio_v 11) (blkOk_by (by first | rfl | decide +kernel)) (fun _ _ _ _ _ => dgw_name 16 sc_law.nd) (fun _ _ _ _ _ => (dts_one (dt_cmp (or_eq hu) (de_cb cr_len (by rfl) M.len (by decide +kernel) (da_cons (de_lc [("_law_other", 8)] rfl sc_law.nd (dio_v 11) (blkOk_by (by first | rfl | decide +kernel)) (fun _ _ _ _ _ => dgw_name 8 sc_law.nd) (fun _ _ _ _ _ => (dts_one (dt_val (de_call h__law_inside hg (hr.mono (by decide)) (by rfl) (da_cons (de_v 8) (da_cons (de_v 16) da_nil)))))) (fun _ _ _ _ _ => (de_v 8))) da_nil)) de_int))) (fun _ _ _ _ _ => (de_v 16)))
    (dss_cons (ds_setLc 13 [("_law_lot_here", 16)] rfl sc_law.nd (dio_v 11) (blkOk_by (by first | rfl | decide +kernel)) (fun _ _ _ _ _ => dgw_name 16 sc_law.nd) (fun _ _ _ _ _ => (dts_one (dt_cmp (or_eq hu) (de_cb cr_len (by rfl) M.len (by decide +kernel) (da_cons (de_lc [("_law_other", 8)] rfl sc_law.nd (dio_v 11) (blkOk_by (by first | rfl | decide +kernel)) (fun _ _ _ _ _ => dgw_name 8 sc_law.nd) (fun _ _ _ _ _ => (dts_one (dt_val (de_call h__law_inside hg (hr.mono (by decide)) (by rfl) (da_cons (de_v 16) (da_cons (de_v 8) da_nil)))))) (fun _ _ _ _ _ => (de_v 8))) da_nil)) de_int))) (fun _ _ _ _ _ => (de_v 16)))
    (dss_cons (ds_for PassesOwn.never rfl (di_rng1 (by rfl) M.range (da_cons de_int da_nil)) (dg_name 6 sc_law.nd) (dss_one (ds_if (dt_w (dw_or (dt_cmp (or_ne hu) (de_cb (cr_repr hg hu2) (by rfl) M.repr (by decide +kernel) (da_cons (de_call h_least_lots hg (hr.mono (by decide)) (by rfl) (da_cons (de_v 9) da_nil)) da_nil)) (de_cb (cr_repr hg hu2) (by rfl) M.repr (by decide +kernel) (da_cons (de_ct cr_tup (by rfl) M.tuple_ (by decide +kernel) (da_cons (de_v 12) da_nil)) da_nil))) (dw_or1 (dt_cmp (or_ne hu) (de_cb (cr_repr hg hu2) (by rfl) M.repr (by decide +kernel) (da_cons (de_call h_greatest_lots hg (hr.mono (by decide)) (by rfl) (da_cons (de_ct cr_tup (by rfl) M.tuple_ (by decide +kernel) (da_cons (de_v 9) da_nil)) da_nil)) da_nil)) (de_cb (cr_repr hg hu2) (by rfl) M.repr (by decide +kernel) (da_cons (de_ct cr_tup (by rfl) M.tuple_ (by decide +kernel) (da_cons (de_v 13) da_nil)) da_nil)))))) (dss_one (ds_ret de_bl)) dss_nil)))
    (dss_cons (ds_if (dt_w (dw_or (dt_cmp (or_ne hu) (de_v 9) (de_v 10)) (dw_or1 (dt_cmp (or_ne hu) (de_v 3) (de_v 5))))) (dss_one (ds_ret de_bl)) dss_nil)
    (dss_cons (ds_if (dt_not (dt_val (de_call h__law_wide_right hg (hr.mono (by decide)) (by rfl) (da_cons (de_v 2) da_nil)))) (dss_one (ds_ret de_bl)) dss_nil)
    (dss_cons (ds_set 14 sc_law.nd (de_call h__law_pick hg (hr.mono (by decide)) (by rfl) (da_cons (de_v 2) (da_cons (de_v 3) da_nil))))
    (dss_one (ds_if (dt_w (dw_or (dt_cmp or_isNot (de_call h_is_name hg (hr.mono (by decide)) (by rfl) (da_cons (de_v 14) da_nil)) de_bl) (dw_or1 (dt_cmp (or_in hu) de_bl (de_lc [("_law_bad", 15)] rfl sc_law.nd (dio_of (di_any (de_call h__law_no_names hg (hr.mono (by decide)) (by rfl) (da_cons (de_v 2) (da_cons (de_v 14) da_nil))))) (blkOk_by (by first | rfl | decide +kernel)) (fun _ _ _ _ _ => dgw_name 15 sc_law.nd) (fun _ _ _ _ _ => dts_nil) (fun _ _ _ _ _ => (de_call h_is_name hg (hr.mono (by decide)) (by rfl) (da_cons (de_v 15) da_nil)))))))) (dss_one (ds_ret de_bl)) dss_nil)))))))))))))))))
    (dss_one (ds_ret de_bl)))⟩

theorem run_united {P : Program} {w : World} {K : PySem.W.Frag} {mg : Str → Option Value} {base : Heap} {fa : Addr} {fd : FuncData} (F : Fun K "united" "united" s_united fa fd) (M : Bl mg)   : XG.FnG P w K mg base CX0 1 fa fd ["one", "other"] (spD K 2 f_united) :=
  fng_def (g := g_united) F sc_united rfl fun cdv A outer s H E hg hr => by
    have hu0 : (A.deeper (envOfC "united" (defScope s_united) s.heap.objs.size fa cdv)).units + 200 < cLine := by have := hr.un; omega
    have hu1 : (A.deeper (envOfC "united" (defScope s_united) s.heap.objs.size fa cdv)).units + 100 < cLine := by omega
    have hu2 : (A.deeper (envOfC "united" (defScope s_united) s.heap.objs.size fa cdv)).units + 64 < cLine := by omega
    have hu : (A.deeper (envOfC "united" (defScope s_united) s.heap.objs.size fa cdv)).units + 65 < cLine := by omega
    exact ⟨_, (dss_one (ds_ret (de_ct cr_tup (by rfl) M.tuple_ (by decide +kernel) (da_cons (de_ss rfl hu0 (by rfl) M.sorted (by rfl) M.set (de_bin or_add (de_v 0) (de_v 1))) da_nil))))⟩

theorem all_mk {l : PySem.W.OpenLaw} {w : World} {K : PySem.W.Frag} {h : Heap} {mg : Str → Option Value} {fa : Addr} {f_0 f_1 f_2 f_3 f_4 f_5 f_6 f_7 f_8 f_9 f_10 f_11 f_12 f_13 f_14 f_15 f_16 f_17 f_18 f_19 f_20 f_21 : Addr} {od0 an0 od1 an1 od2 an2 od3 an3 od4 an4 od5 an5 od6 an6 od7 an7 od8 an8 od9 an9 od10 an10 od11 an11 od12 an12 od13 an13 od14 an14 od15 an15 od16 an16 od17 an17 od18 an18 od19 an19 od20 an20 od21 an21 : Option Addr} {sl0 sl1 sl2 sl3 sl4 sl5 sl6 sl7 sl8 sl9 sl10 sl11 sl12 sl13 sl14 sl15 sl16 sl17 sl18 sl19 sl20 sl21 : Array (Option Value)} {oc0 kV0 dc0 pm0 cd0 ct0 oc1 kV1 dc1 pm1 cd1 ct1 oc2 kV2 dc2 pm2 cd2 ct2 oc3 kV3 dc3 pm3 cd3 ct3 oc4 kV4 dc4 pm4 cd4 ct4 oc5 kV5 dc5 pm5 cd5 ct5 oc6 kV6 dc6 pm6 cd6 ct6 oc7 kV7 dc7 pm7 cd7 ct7 oc8 kV8 dc8 pm8 cd8 ct8 oc9 kV9 dc9 pm9 cd9 ct9 oc10 kV10 dc10 pm10 cd10 ct10 oc11 kV11 dc11 pm11 cd11 ct11 oc12 kV12 dc12 pm12 cd12 ct12 oc13 kV13 dc13 pm13 cd13 ct13 oc14 kV14 dc14 pm14 cd14 ct14 oc15 kV15 dc15 pm15 cd15 ct15 oc16 kV16 dc16 pm16 cd16 ct16 oc17 kV17 dc17 pm17 cd17 ct17 oc18 kV18 dc18 pm18 cd18 ct18 oc19 kV19 dc19 pm19 cd19 ct19 oc20 kV20 dc20 pm20 cd20 ct20 oc21 kV21 dc21 pm21 cd21 ct21 : Value} (X : K.In h) (G : h.Ns mainGlobals mg) (hfa : mg "law" = some (.ref fa))
    (a0 : PySem.W.nsIn K mainGlobals "is_name" = some (some (.ref f_0))) (l0 : K.lookup f_0 = some ⟨oc0, od0, .func (PySem.W.fnOf "is_name" "is_name" (defArgs s_is_name) (defBody s_is_name) (defScope s_is_name) .none kV0 dc0 pm0 an0 cd0 ct0), sl0⟩) (c0 : PySem.W.codeIn K cd0 "is_name" = true) (k0 : PySem.W.keepIn K (.ref f_0) = true)
    (a1 : PySem.W.nsIn K mainGlobals "is_lot" = some (some (.ref f_1))) (l1 : K.lookup f_1 = some ⟨oc1, od1, .func (PySem.W.fnOf "is_lot" "is_lot" (defArgs s_is_lot) (defBody s_is_lot) (defScope s_is_lot) .none kV1 dc1 pm1 an1 cd1 ct1), sl1⟩) (c1 : PySem.W.codeIn K cd1 "is_lot" = true) (k1 : PySem.W.keepIn K (.ref f_1) = true)
    (a2 : PySem.W.nsIn K mainGlobals "common" = some (some (.ref f_2))) (l2 : K.lookup f_2 = some ⟨oc2, od2, .func (PySem.W.fnOf "common" "common" (defArgs s_common) (defBody s_common) (defScope s_common) .none kV2 dc2 pm2 an2 cd2 ct2), sl2⟩) (c2 : PySem.W.codeIn K cd2 "common" = true) (k2 : PySem.W.keepIn K (.ref f_2) = true)
    (a3 : PySem.W.nsIn K mainGlobals "united" = some (some (.ref f_3))) (l3 : K.lookup f_3 = some ⟨oc3, od3, .func (PySem.W.fnOf "united" "united" (defArgs s_united) (defBody s_united) (defScope s_united) .none kV3 dc3 pm3 an3 cd3 ct3), sl3⟩) (c3 : PySem.W.codeIn K cd3 "united" = true) (k3 : PySem.W.keepIn K (.ref f_3) = true)
    (a4 : PySem.W.nsIn K mainGlobals "less" = some (some (.ref f_4))) (l4 : K.lookup f_4 = some ⟨oc4, od4, .func (PySem.W.fnOf "less" "less" (defArgs s_less) (defBody s_less) (defScope s_less) .none kV4 dc4 pm4 an4 cd4 ct4), sl4⟩) (c4 : PySem.W.codeIn K cd4 "less" = true) (k4 : PySem.W.keepIn K (.ref f_4) = true)
    (a5 : PySem.W.nsIn K mainGlobals "is_part" = some (some (.ref f_5))) (l5 : K.lookup f_5 = some ⟨oc5, od5, .func (PySem.W.fnOf "is_part" "is_part" (defArgs s_is_part) (defBody s_is_part) (defScope s_is_part) .none kV5 dc5 pm5 an5 cd5 ct5), sl5⟩) (c5 : PySem.W.codeIn K cd5 "is_part" = true) (k5 : PySem.W.keepIn K (.ref f_5) = true)
    (a6 : PySem.W.nsIn K mainGlobals "parts_of" = some (some (.ref f_6))) (l6 : K.lookup f_6 = some ⟨oc6, od6, .func (PySem.W.fnOf "parts_of" "parts_of" (defArgs s_parts_of) (defBody s_parts_of) (defScope s_parts_of) .none kV6 dc6 pm6 an6 cd6 ct6), sl6⟩) (c6 : PySem.W.codeIn K cd6 "parts_of" = true) (k6 : PySem.W.keepIn K (.ref f_6) = true)
    (a7 : PySem.W.nsIn K mainGlobals "lots_between" = some (some (.ref f_7))) (l7 : K.lookup f_7 = some ⟨oc7, od7, .func (PySem.W.fnOf "lots_between" "lots_between" (defArgs s_lots_between) (defBody s_lots_between) (defScope s_lots_between) .none kV7 dc7 pm7 an7 cd7 ct7), sl7⟩) (c7 : PySem.W.codeIn K cd7 "lots_between" = true) (k7 : PySem.W.keepIn K (.ref f_7) = true)
    (a8 : PySem.W.nsIn K mainGlobals "least_lots" = some (some (.ref f_8))) (l8 : K.lookup f_8 = some ⟨oc8, od8, .func (PySem.W.fnOf "least_lots" "least_lots" (defArgs s_least_lots) (defBody s_least_lots) (defScope s_least_lots) .none kV8 dc8 pm8 an8 cd8 ct8), sl8⟩) (c8 : PySem.W.codeIn K cd8 "least_lots" = true) (k8 : PySem.W.keepIn K (.ref f_8) = true)
    (a9 : PySem.W.nsIn K mainGlobals "greatest_lots" = some (some (.ref f_9))) (l9 : K.lookup f_9 = some ⟨oc9, od9, .func (PySem.W.fnOf "greatest_lots" "greatest_lots" (defArgs s_greatest_lots) (defBody s_greatest_lots) (defScope s_greatest_lots) .none kV9 dc9 pm9 an9 cd9 ct9), sl9⟩) (c9 : PySem.W.codeIn K cd9 "greatest_lots" = true) (k9 : PySem.W.keepIn K (.ref f_9) = true)
    (a10 : PySem.W.nsIn K mainGlobals "_law_box" = some (some (.ref f_10))) (l10 : K.lookup f_10 = some ⟨oc10, od10, .func (PySem.W.fnOf "_law_box" "_law_box" (defArgs s__law_box) (defBody s__law_box) (defScope s__law_box) .none kV10 dc10 pm10 an10 cd10 ct10), sl10⟩) (c10 : PySem.W.codeIn K cd10 "_law_box" = true) (k10 : PySem.W.keepIn K (.ref f_10) = true)
    (a11 : PySem.W.nsIn K mainGlobals "_law_take" = some (some (.ref f_11))) (l11 : K.lookup f_11 = some ⟨oc11, od11, .func (PySem.W.fnOf "_law_take" "_law_take" (defArgs s__law_take) (defBody s__law_take) (defScope s__law_take) .none kV11 dc11 pm11 an11 cd11 ct11), sl11⟩) (c11 : PySem.W.codeIn K cd11 "_law_take" = true) (k11 : PySem.W.keepIn K (.ref f_11) = true)
    (a12 : PySem.W.nsIn K mainGlobals "_law_pick" = some (some (.ref f_12))) (l12 : K.lookup f_12 = some ⟨oc12, od12, .func (PySem.W.fnOf "_law_pick" "_law_pick" (defArgs s__law_pick) (defBody s__law_pick) (defScope s__law_pick) .none kV12 dc12 pm12 an12 cd12 ct12), sl12⟩) (c12 : PySem.W.codeIn K cd12 "_law_pick" = true) (k12 : PySem.W.keepIn K (.ref f_12) = true)
    (a13 : PySem.W.nsIn K mainGlobals "_law_names" = some (some (.ref f_13))) (l13 : K.lookup f_13 = some ⟨oc13, od13, .func (PySem.W.fnOf "_law_names" "_law_names" (defArgs s__law_names) (defBody s__law_names) (defScope s__law_names) .none kV13 dc13 pm13 an13 cd13 ct13), sl13⟩) (c13 : PySem.W.codeIn K cd13 "_law_names" = true) (k13 : PySem.W.keepIn K (.ref f_13) = true)
    (a14 : PySem.W.nsIn K mainGlobals "_law_lot" = some (some (.ref f_14))) (l14 : K.lookup f_14 = some ⟨oc14, od14, .func (PySem.W.fnOf "_law_lot" "_law_lot" (defArgs s__law_lot) (defBody s__law_lot) (defScope s__law_lot) .none kV14 dc14 pm14 an14 cd14 ct14), sl14⟩) (c14 : PySem.W.codeIn K cd14 "_law_lot" = true) (k14 : PySem.W.keepIn K (.ref f_14) = true)
    (a15 : PySem.W.nsIn K mainGlobals "_law_all" = some (some (.ref f_15))) (l15 : K.lookup f_15 = some ⟨oc15, od15, .func (PySem.W.fnOf "_law_all" "_law_all" (defArgs s__law_all) (defBody s__law_all) (defScope s__law_all) .none kV15 dc15 pm15 an15 cd15 ct15), sl15⟩) (c15 : PySem.W.codeIn K cd15 "_law_all" = true) (k15 : PySem.W.keepIn K (.ref f_15) = true)
    (a16 : PySem.W.nsIn K mainGlobals "_law_no_names" = some (some (.ref f_16))) (l16 : K.lookup f_16 = some ⟨oc16, od16, .func (PySem.W.fnOf "_law_no_names" "_law_no_names" (defArgs s__law_no_names) (defBody s__law_no_names) (defScope s__law_no_names) .none kV16 dc16 pm16 an16 cd16 ct16), sl16⟩) (c16 : PySem.W.codeIn K cd16 "_law_no_names" = true) (k16 : PySem.W.keepIn K (.ref f_16) = true)
    (a17 : PySem.W.nsIn K mainGlobals "_law_no_lots" = some (some (.ref f_17))) (l17 : K.lookup f_17 = some ⟨oc17, od17, .func (PySem.W.fnOf "_law_no_lots" "_law_no_lots" (defArgs s__law_no_lots) (defBody s__law_no_lots) (defScope s__law_no_lots) .none kV17 dc17 pm17 an17 cd17 ct17), sl17⟩) (c17 : PySem.W.codeIn K cd17 "_law_no_lots" = true) (k17 : PySem.W.keepIn K (.ref f_17) = true)
    (a18 : PySem.W.nsIn K mainGlobals "_law_pair_right" = some (some (.ref f_18))) (l18 : K.lookup f_18 = some ⟨oc18, od18, .func (PySem.W.fnOf "_law_pair_right" "_law_pair_right" (defArgs s__law_pair_right) (defBody s__law_pair_right) (defScope s__law_pair_right) .none kV18 dc18 pm18 an18 cd18 ct18), sl18⟩) (c18 : PySem.W.codeIn K cd18 "_law_pair_right" = true) (k18 : PySem.W.keepIn K (.ref f_18) = true)
    (a19 : PySem.W.nsIn K mainGlobals "_law_inside" = some (some (.ref f_19))) (l19 : K.lookup f_19 = some ⟨oc19, od19, .func (PySem.W.fnOf "_law_inside" "_law_inside" (defArgs s__law_inside) (defBody s__law_inside) (defScope s__law_inside) .none kV19 dc19 pm19 an19 cd19 ct19), sl19⟩) (c19 : PySem.W.codeIn K cd19 "_law_inside" = true) (k19 : PySem.W.keepIn K (.ref f_19) = true)
    (a20 : PySem.W.nsIn K mainGlobals "_law_wide_right" = some (some (.ref f_20))) (l20 : K.lookup f_20 = some ⟨oc20, od20, .func (PySem.W.fnOf "_law_wide_right" "_law_wide_right" (defArgs s__law_wide_right) (defBody s__law_wide_right) (defScope s__law_wide_right) .none kV20 dc20 pm20 an20 cd20 ct20), sl20⟩) (c20 : PySem.W.codeIn K cd20 "_law_wide_right" = true) (k20 : PySem.W.keepIn K (.ref f_20) = true)
    (a21 : PySem.W.nsIn K mainGlobals "law" = some (some (.ref f_21))) (l21 : K.lookup f_21 = some ⟨oc21, od21, .func (PySem.W.fnOf "law" "law" (defArgs s_law) (defBody s_law) (defScope s_law) .none kV21 dc21 pm21 an21 cd21 ct21), sl21⟩) (c21 : PySem.W.codeIn K cd21 "law" = true) (k21 : PySem.W.keepIn K (.ref f_21) = true)
    (z0 : PySem.W.nsIn K mainGlobals "len" = some none) (z1 : PySem.W.nsIn K mainGlobals "range" = some none) (z2 : PySem.W.nsIn K mainGlobals "sorted" = some none) (z3 : PySem.W.nsIn K mainGlobals "set" = some none) (z4 : PySem.W.nsIn K mainGlobals "isinstance" = some none) (z5 : PySem.W.nsIn K mainGlobals "abs" = some none) (z6 : PySem.W.nsIn K mainGlobals "max" = some none) (z7 : PySem.W.nsIn K mainGlobals "min" = some none) (z8 : PySem.W.nsIn K mainGlobals "repr" = some none) (z9 : PySem.W.nsIn K mainGlobals "any" = some none) (z10 : PySem.W.nsIn K mainGlobals "all" = some none) (z11 : PySem.W.nsIn K mainGlobals "int" = some none) (z12 : PySem.W.nsIn K mainGlobals "str" = some none) (z13 : PySem.W.nsIn K mainGlobals "list" = some none) (z14 : PySem.W.nsIn K mainGlobals "tuple" = some none) (z15 : PySem.W.nsIn K mainGlobals "bool" = some none) :
    ∃ fd : FuncData, (∀ (s : Shared) (v : Value), BindsTo s fd ⟨[v], []⟩ [("_law_script", v)]) ∧ ∀ base : Heap, K.In base → base.Ns mainGlobals mg → XG.FnG l.prog w K mg base CX0 4 fa fd ["_law_script"] (spD K 1 f_law) := by
  have e := hfa.symm.trans (PySem.W.mg_of X G a21)
  cases e
  have M : Bl mg := ⟨PySem.W.mg_none_of X G z0, PySem.W.mg_none_of X G z1, PySem.W.mg_none_of X G z2, PySem.W.mg_none_of X G z3, PySem.W.mg_none_of X G z4, PySem.W.mg_none_of X G z5, PySem.W.mg_none_of X G z6, PySem.W.mg_none_of X G z7, PySem.W.mg_none_of X G z8, PySem.W.mg_none_of X G z9, PySem.W.mg_none_of X G z10, PySem.W.mg_none_of X G z11, PySem.W.mg_none_of X G z12, PySem.W.mg_none_of X G z13, PySem.W.mg_none_of X G z14, PySem.W.mg_none_of X G z15⟩
  have F0 := fun_mk (st := s_is_name) l0 c0 k0
  have b0 := F0.binds (ps := ["value"]) fun _ _ _ _ _ _ us hl => match us, hl with | [_], _ => rfl
  have F1 := fun_mk (st := s_is_lot) l1 c1 k1
  have b1 := F1.binds (ps := ["value"]) fun _ _ _ _ _ _ us hl => match us, hl with | [_], _ => rfl
  have F2 := fun_mk (st := s_common) l2 c2 k2
  have b2 := F2.binds (ps := ["one", "other"]) fun _ _ _ _ _ _ us hl => match us, hl with | [_, _], _ => rfl
  have F3 := fun_mk (st := s_united) l3 c3 k3
  have b3 := F3.binds (ps := ["one", "other"]) fun _ _ _ _ _ _ us hl => match us, hl with | [_, _], _ => rfl
  have F4 := fun_mk (st := s_less) l4 c4 k4
  have b4 := F4.binds (ps := ["one", "other"]) fun _ _ _ _ _ _ us hl => match us, hl with | [_, _], _ => rfl
  have F5 := fun_mk (st := s_is_part) l5 c5 k5
  have b5 := F5.binds (ps := ["one", "other"]) fun _ _ _ _ _ _ us hl => match us, hl with | [_, _], _ => rfl
  have F6 := fun_mk (st := s_parts_of) l6 c6 k6
  have b6 := F6.binds (ps := ["lot"]) fun _ _ _ _ _ _ us hl => match us, hl with | [_], _ => rfl
  have F7 := fun_mk (st := s_lots_between) l7 c7 k7
  have b7 := F7.binds (ps := ["low", "high"]) fun _ _ _ _ _ _ us hl => match us, hl with | [_, _], _ => rfl
  have F8 := fun_mk (st := s_least_lots) l8 c8 k8
  have b8 := F8.binds (ps := ["lots"]) fun _ _ _ _ _ _ us hl => match us, hl with | [_], _ => rfl
  have F9 := fun_mk (st := s_greatest_lots) l9 c9 k9
  have b9 := F9.binds (ps := ["lots"]) fun _ _ _ _ _ _ us hl => match us, hl with | [_], _ => rfl
  have F10 := fun_mk (st := s__law_box) l10 c10 k10
  have b10 := F10.binds (ps := ["_law_script", "_law_k"]) fun _ _ _ _ _ _ us hl => match us, hl with | [_, _], _ => rfl
  have F11 := fun_mk (st := s__law_take) l11 c11 k11
  have b11 := F11.binds (ps := ["_law_box_here", "_law_many"]) fun _ _ _ _ _ _ us hl => match us, hl with | [_, _], _ => rfl
  have F12 := fun_mk (st := s__law_pick) l12 c12 k12
  have b12 := F12.binds (ps := ["_law_box_here", "_law_some"]) fun _ _ _ _ _ _ us hl => match us, hl with | [_, _], _ => rfl
  have F13 := fun_mk (st := s__law_names) l13 c13 k13
  have b13 := F13.binds (ps := ["_law_box_here", "_law_many"]) fun _ _ _ _ _ _ us hl => match us, hl with | [_, _], _ => rfl
  have F14 := fun_mk (st := s__law_lot) l14 c14 k14
  have b14 := F14.binds (ps := ["_law_box_here", "_law_names_here"]) fun _ _ _ _ _ _ us hl => match us, hl with | [_, _], _ => rfl
  have F15 := fun_mk (st := s__law_all) l15 c15 k15
  have b15 := F15.binds (ps := ["_law_names_here"]) fun _ _ _ _ _ _ us hl => match us, hl with | [_], _ => rfl
  have F16 := fun_mk (st := s__law_no_names) l16 c16 k16
  have b16 := F16.binds (ps := ["_law_box_here", "_law_name"]) fun _ _ _ _ _ _ us hl => match us, hl with | [_, _], _ => rfl
  have F17 := fun_mk (st := s__law_no_lots) l17 c17 k17
  have b17 := F17.binds (ps := ["_law_box_here", "_law_lot_here"]) fun _ _ _ _ _ _ us hl => match us, hl with | [_, _], _ => rfl
  have F18 := fun_mk (st := s__law_pair_right) l18 c18 k18
  have b18 := F18.binds (ps := ["_law_one", "_law_other", "_law_lots"]) fun _ _ _ _ _ _ us hl => match us, hl with | [_, _, _], _ => rfl
  have F19 := fun_mk (st := s__law_inside) l19 c19 k19
  have b19 := F19.binds (ps := ["_law_one", "_law_other"]) fun _ _ _ _ _ _ us hl => match us, hl with | [_, _], _ => rfl
  have F20 := fun_mk (st := s__law_wide_right) l20 c20 k20
  have b20 := F20.binds (ps := ["_law_box_here"]) fun _ _ _ _ _ _ us hl => match us, hl with | [_], _ => rfl
  have F21 := fun_mk (st := s_law) l21 c21 k21
  refine ⟨PySem.W.fnOf "law" "law" (defArgs s_law) (defBody s_law) (defScope s_law) .none kV21 dc21 pm21 an21 cd21 ct21, fun s v => .of_eq rfl, fun base _ _ => ?_⟩
  have H_is_name := has_is_name (P := l.prog) (w := w) (base := base) F0 (PySem.W.mg_of X G a0) b0 M  
  have H_is_lot := has_is_lot (P := l.prog) (w := w) (base := base) F1 (PySem.W.mg_of X G a1) b1 M H_is_name 
  have H_common := has_common (P := l.prog) (w := w) (base := base) F2 (PySem.W.mg_of X G a2) b2 M  
  have H_united := has_united (P := l.prog) (w := w) (base := base) F3 (PySem.W.mg_of X G a3) b3 M  
  have K_united : HasK l.prog w K mg base 1 "united" ["one", "other"] f_united := ⟨f_3, _, PySem.W.mg_of X G a3, k3, fun s ws hl => match ws, hl with | [_, _], _ => .of_eq rfl, run_united (P := l.prog) (w := w) (base := base) F3 M ⟩
  have H_less := has_less (P := l.prog) (w := w) (base := base) F4 (PySem.W.mg_of X G a4) b4 M  
  have H_is_part := has_is_part (P := l.prog) (w := w) (base := base) F5 (PySem.W.mg_of X G a5) b5 M  
  have H_parts_of := has_parts_of (P := l.prog) (w := w) (base := base) F6 (PySem.W.mg_of X G a6) b6 M  
  have H_lots_between := has_lots_between (P := l.prog) (w := w) (base := base) F7 (PySem.W.mg_of X G a7) b7 M H_united H_less H_is_part H_parts_of 
  have H_least_lots := has_least_lots (P := l.prog) (w := w) (base := base) F8 (PySem.W.mg_of X G a8) b8 M H_is_part 
  have H_greatest_lots := has_greatest_lots (P := l.prog) (w := w) (base := base) F9 (PySem.W.mg_of X G a9) b9 M H_is_part 
  have H__law_box := has__law_box (P := l.prog) (w := w) (base := base) F10 (PySem.W.mg_of X G a10) b10 M  
  have H__law_take := has__law_take (P := l.prog) (w := w) (base := base) F11 (PySem.W.mg_of X G a11) b11 M  
  have H__law_pick := has__law_pick (P := l.prog) (w := w) (base := base) F12 (PySem.W.mg_of X G a12) b12 M H__law_take 
  have H__law_names := has__law_names (P := l.prog) (w := w) (base := base) F13 (PySem.W.mg_of X G a13) b13 M H__law_take 
  have H__law_lot := has__law_lot (P := l.prog) (w := w) (base := base) F14 (PySem.W.mg_of X G a14) b14 M H__law_take 
  have H__law_all := has__law_all (P := l.prog) (w := w) (base := base) F15 (PySem.W.mg_of X G a15) b15 M  
  have H__law_no_names := has__law_no_names (P := l.prog) (w := w) (base := base) F16 (PySem.W.mg_of X G a16) b16 M H__law_take 
  have H__law_no_lots := has__law_no_lots (P := l.prog) (w := w) (base := base) F17 (PySem.W.mg_of X G a17) b17 M H__law_take 
  have H__law_pair_right := has__law_pair_right (P := l.prog) (w := w) (base := base) F18 (PySem.W.mg_of X G a18) b18 M H_common H_united H_less H_is_part H_lots_between K_united
  have H__law_inside := has__law_inside (P := l.prog) (w := w) (base := base) F19 (PySem.W.mg_of X G a19) b19 M  
  have H__law_wide_right := has__law_wide_right (P := l.prog) (w := w) (base := base) F20 (PySem.W.mg_of X G a20) b20 M H_common H_united H_less H_parts_of H__law_names H__law_lot H__law_all 
  exact run_law (P := l.prog) (w := w) (base := base) F21 M H_is_name H_is_lot H_parts_of H_least_lots H_greatest_lots H__law_box H__law_take H__law_pick H__law_names H__law_all H__law_no_names H__law_no_lots H__law_pair_right H__law_inside H__law_wide_right 
end XN
open PySem PySem.W PyProof.Rows
set_option maxHeartbeats 0 in
theorem PySem.Challenge.cw_stopsfirst_k01_lots_and_their_parts_holds : PySem.Challenge.rw_stopsfirst_k01_lots_and_their_parts.Holds := by
  w_on; o_law; k_head; (case hw => w_witness2)
  k_fill
  refine XG.walkG (l := PySem.Challenge.rw_stopsfirst_k01_lots_and_their_parts) (n := 63) (k := 4) (x := "_law_script") (sp := fun _ K => XN.spD K 1 XN.f_law) rfl (by decide) rfl ⟨rfl, by decide, by decide⟩ (fun w h Y => PySem.W.kIn_of Y) ?F (fun w H a ns hl _ hS => XN.ask_of hS (XN.law_is (by omega)))
  case F =>
    intro w mg fa h KX G hmg
    refine' XN.all_mk KX G hmg ?a0 ?l0 ?c0 ?k0 ?a1 ?l1 ?c1 ?k1 ?a2 ?l2 ?c2 ?k2 ?a3 ?l3 ?c3 ?k3 ?a4 ?l4 ?c4 ?k4 ?a5 ?l5 ?c5 ?k5 ?a6 ?l6 ?c6 ?k6 ?a7 ?l7 ?c7 ?k7 ?a8 ?l8 ?c8 ?k8 ?a9 ?l9 ?c9 ?k9 ?a10 ?l10 ?c10 ?k10 ?a11 ?l11 ?c11 ?k11 ?a12 ?l12 ?c12 ?k12 ?a13 ?l13 ?c13 ?k13 ?a14 ?l14 ?c14 ?k14 ?a15 ?l15 ?c15 ?k15 ?a16 ?l16 ?c16 ?k16 ?a17 ?l17 ?c17 ?k17 ?a18 ?l18 ?c18 ?k18 ?a19 ?l19 ?c19 ?k19 ?a20 ?l20 ?c20 ?k20 ?a21 ?l21 ?c21 ?k21 ?z0 ?z1 ?z2 ?z3 ?z4 ?z5 ?z6 ?z7 ?z8 ?z9 ?z10 ?z11 ?z12 ?z13 ?z14 ?z15
    (case a0 => k_is); (case l0 => k_is); (case c0 => k_is); (case k0 => k_is); (case a1 => k_is); (case l1 => k_is); (case c1 => k_is); (case k1 => k_is); (case a2 => k_is); (case l2 => k_is); (case c2 => k_is); (case k2 => k_is); (case a3 => k_is); (case l3 => k_is); (case c3 => k_is); (case k3 => k_is); (case a4 => k_is); (case l4 => k_is); (case c4 => k_is); (case k4 => k_is); (case a5 => k_is); (case l5 => k_is); (case c5 => k_is); (case k5 => k_is); (case a6 => k_is); (case l6 => k_is); (case c6 => k_is); (case k6 => k_is); (case a7 => k_is); (case l7 => k_is); (case c7 => k_is); (case k7 => k_is); (case a8 => k_is); (case l8 => k_is); (case c8 => k_is); (case k8 => k_is); (case a9 => k_is); (case l9 => k_is); (case c9 => k_is); (case k9 => k_is); (case a10 => k_is); (case l10 => k_is); (case c10 => k_is); (case k10 => k_is); (case a11 => k_is); (case l11 => k_is); (case c11 => k_is); (case k11 => k_is); (case a12 => k_is); (case l12 => k_is); (case c12 => k_is); (case k12 => k_is); (case a13 => k_is); (case l13 => k_is); (case c13 => k_is); (case k13 => k_is); (case a14 => k_is); (case l14 => k_is); (case c14 => k_is); (case k14 => k_is); (case a15 => k_is); (case l15 => k_is); (case c15 => k_is); (case k15 => k_is); (case a16 => k_is); (case l16 => k_is); (case c16 => k_is); (case k16 => k_is); (case a17 => k_is); (case l17 => k_is); (case c17 => k_is); (case k17 => k_is); (case a18 => k_is); (case l18 => k_is); (case c18 => k_is); (case k18 => k_is); (case a19 => k_is); (case l19 => k_is); (case c19 => k_is); (case k19 => k_is); (case a20 => k_is); (case l20 => k_is); (case c20 => k_is); (case k20 => k_is); (case a21 => k_is); (case l21 => k_is); (case c21 => k_is); (case k21 => k_is); (case z0 => k_is); (case z1 => k_is); (case z2 => k_is); (case z3 => k_is); (case z4 => k_is); (case z5 => k_is); (case z6 => k_is); (case z7 => k_is); (case z8 => k_is); (case z9 => k_is); (case z10 => k_is); (case z11 => k_is); (case z12 => k_is); (case z13 => k_is); (case z14 => k_is); (case z15 => k_is)

