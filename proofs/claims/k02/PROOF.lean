import PyProof.Rows.All
import Wide.All
import OpenK.AllK
import Wide.FinOn
import HandS.ForMost
import HandS.Style
import HandS.Zip
import HandS.Wide
import HandS.IsInst
import HandS.RaiseMore
import PyProof.ReprRoads
import PyProof.EqAt
import HandS.Ends
import PySem.Challenge.RW_leastheads_k02_blocks_of_numbers
set_option Elab.async false
set_option linter.all false
set_option maxRecDepth 100000
namespace My
open PySem PySem.Spec PyProof.Rows L2

/-! powers of great numbers -/
def CPw (i j : Int) : Prop := 0 ≤ j ∧ j ≤ 1000 ∧ i.natAbs.log2 < 100000
theorem op_pw {X : Cx} : OpR X (binaryOp .Pow) (rI CPw fun i j => .int (i ^ j.toNat)) :=
  opI fun i j _ _ _ _ _ hc q => by
    obtain ⟨h0, h1, h2⟩ := hc
    refine pow_int h0 ?_ q
    have hb : Builtin.Int.intBits i ≤ i.natAbs.log2 + 1 := by
      unfold Builtin.Int.intBits
      split <;> omega
    have hb2 : (Builtin.Int.intBits i : Int) ≤ 100000 := by omega
    calc (Builtin.Int.intBits i : Int) * j ≤ 100000 * j := Int.mul_le_mul_of_nonneg_right hb2 h0
      _ ≤ 2 ^ 27 := by omega
theorem pw_ok {i j : Int} {b : Nat} (h0 : 0 ≤ j) (h1 : j ≤ 1000) (hb : i.natAbs < 2 ^ b) (hp : 0 < b) (hl : b ≤ 100000) : CPw i j := by
  have z := PySem.Flt.log2_lt_of hp hb
  exact ⟨h0, h1, by omega⟩
/-! repr of data -/
def rRep (K : PySem.W.Frag) : List V → Hp → VK → Prop := fun vs H Q => ∃ (a : Addr) (d : PyData), vs = [.ref a] ∧ Dp K H (.ref a) d ∧
  d.showable = true ∧ d.hasDict = false ∧ d.shown.length ≤ sizeLine ∧ d.depth ≤ 60 ∧ Q (.str d.shown) H
theorem cr_rep {X : Cx} (hg : X.A.guards = some []) (hu : X.A.units + 100 < cLine) : CallR X (.builtin "repr") (rRep X.K) := by
  intro pins s sg H xs us Q I rv h
  obtain ⟨a, d, rfl, hd, hs, hn, hz, hdp, q⟩ := h
  obtain ⟨u, rfl, ru⟩ := rv.one
  have ru' : u = Value.ref a := ru
  subst ru'
  obtain ⟨bs, r⟩ := Dp.reads I d _ _ hd (show RelV (.ref a) (Value.ref a) from rfl)
  refine repr_of_reads' (h₀ := s.heap) r hs (fun e => by rw [hn] at e; cases e) hg (by omega) (fun _ _ e => e) (fun h' u tk hk => ?_) hz
  exact ⟨.str d.shown, H, I.kept hk, ⟨u, rfl⟩, q⟩
end My
namespace My
open PySem PySem.Spec PyProof.Rows L2

/-! defs that are called where no repr runs: their promise knows it -/
structure FnG (P : Program) (w : World) (K : PySem.W.Frag) (mg : Str → Option Value) (base : Heap) (k : Nat) (f : Addr) (fd : FuncData)
    (ps : List Str) (sp : Sp) : Prop where
  len : ∀ vs H Q E, sp vs H Q E → vs.length = ps.length
  run : ∀ (A : Around) (outer : List Env) (s : Shared) (H : Hp) (args : Args) (us : List Value) (vs : List V) (Q : VK) (E : XK),
    Room k A → A.guards = some [] → Env0 P w K mg base A outer s H → BindsTo s fd args (ps.zip us) → Vals vs us → sp vs H Q E →
    codeAny (model P w) A (.call (.ref f) args) (CR CX0 outer P w H s Q E) s

theorem okG {P : Program} {w : World} {K : PySem.W.Frag} {mg : Str → Option Value} {base : Heap} {x qual : Str} {st : Stmt} {f : Addr}
    {fd : FuncData} {N ps : List Str} {k : Nat} {sp : Sp} (F : Fun K x qual st f fd) (S : FnScope N ps (defScope st))
    (len : ∀ vs H Q E, sp vs H Q E → vs.length = ps.length)
    (body : ∀ (cdv : Value) (A : Around) (outer : List Env) (s : Shared) (H : Hp) (vs : List V) (Q : VK) (E : XK), A.guards = some [] →
      Room k (A.deeper (envOfC qual (defScope st) s.heap.objs.size f cdv)) → sp vs H Q E →
      ∃ t, PSs (cxOf CX0 P w K mg base N qual (defScope st) f cdv A outer s H E).nox (defBody st) t ∧
        t { nx := fun _ H' => Q .non H', rt := Q } (start N vs) H) : FnG P w K mg base (k + 1) f fd ps sp := by
  obtain ⟨oc, od, kV, doc, pm, an, cdv, ct, osl, rfl, lk, hcd⟩ := F.ex
  refine ⟨len, ?_⟩
  intro A outer s H args us vs Q E room gu en bi rv want
  have hlen := len vs H Q E want
  have KI : K.In s.heap := en.mod.kin.keeps (fun b o e => (en.bs b o e).1)
  have NL : s.heap.NoLimit := en.mod.nolimit.keeps (fun b o e => (en.bs b o e).1)
  have kinds : ∀ y ∈ ps.zip us, (defScope st).names.lookup y.1 = some .local ∨
      ((defScope st).names.lookup y.1 = some .cell ∧ ((cellsFrom (s.heap.objs.size + 1) (defScope st).names []).lookup y.1).isSome = true) := by
    rintro ⟨n, v⟩ hy
    rcases S.par n (List.of_mem_zip hy).1 with z | z
    · exact Or.inl z
    · exact Or.inr ⟨z, PySem.W.cellsFrom_some _ _ _ (Or.inl z)⟩
  refine codeAny_call_function room.depth (KI _ _ lk) rfl S.co S.gen rfl (PySem.W.codeRec_of KI hcd) (bi _ _ _ _ ?_)
  refine wpAny_newFunctionEnv_cells S.kind kinds (fun env he s1 x1 => ?_)
  subst he
  refine ⟨NL.keeps x1.toInCall.keep, codeAny_func ?_⟩
  obtain ⟨t, ht, hq⟩ := body cdv A outer s H vs Q E gu (room.deeper _) want
  have J0 := inv_start (CX := CX0) (E := E) (qual := qual) S room.hd en hlen rv x1
  refine wpAny_mono (ht.nox.run [] s1 (start N vs) H _ J0 hq) ?_ (fun e s' z => z)
  intro fl s' z
  cases fl with
  | next =>
    obtain ⟨sg, H', J, q⟩ := z
    exact ⟨.non, H', J.os, J.bare, J.base, J.hok, rfl, q⟩
  | ret u =>
    obtain ⟨v, sg, H', J, r1, q⟩ := z
    exact ⟨v, H', J.os, J.bare, J.base, J.hok, r1, q⟩
  | brk => exact z.elim fun _ z => z.elim fun _ z => False.elim z.2
  | cont => exact z.elim fun _ z => z.elim fun _ z => False.elim z.2

section
variable {X : Cx} {k : Nat} {f : Addr} {fd : FuncData} {ps : List Str} {sp : Sp} {E : XK}
theorem pe_callG {x : Str} {p pos : Pos} {e : Expr} {es : List Expr} {t : TA} (F : FnG X.prog X.w X.K X.mg X.base k f fd ps sp) (room : Room k X.A)
    (gu : X.A.guards = some []) (gl : Gl X x) (hm : X.mg x = some (.ref f)) (kp : PySem.W.keepIn X.K (.ref f) = true) (bi : Binds X.K fd ps [])
    (pa : Passes CX0 X E) (ha : PA X (e :: es) t) (hdb : (x == ("__debug__" : Str)) = false := by decide)
    (he : starEach (e :: es) X.env = (false, eval e X.env) :: starEach es X.env := by rfl)
    (hpl : (backTo pos (starEach es X.env)).any (·.1) = false := by rfl) : PE X (.Call (.Name x p) (e :: es) [] pos) (tCall sp [] E t) := by
  refine ⟨fun pins s sg H Q I want => ?_⟩
  refine wpAny_Call_Name_kw (ld_glob I gl hm ?_ hdb)
  refine PySem.W.callWith_K (h₀ := X.base) I.ok.mod.kin kp (thn (ha.run pos pins s sg H _ I want) ?_) he hpl
  rintro us s1 ⟨vs, H1, I1, rv, q⟩
  refine ⟨I1.kIn, ?_⟩
  have q' : sp vs H1 Q E := by
    have z := q
    rw [List.append_nil] at z
    exact z
  have hl : (us ++ []).length = ps.length := by
    rw [List.append_nil, ← rv.length]
    exact F.len _ _ _ _ q'
  have bt := bi s1 us I1.kIn hl
  rw [List.append_nil] at bt
  refine wpAny_call (codeAny_mono (F.run X.A X.stack s1 H1 ⟨us, []⟩ us vs Q E room gu I1.env0 bt rv q') ?_)
  intro r s' z
  cases r with
  | error e => exact pa pins sg H1 s1 e s' I1 z
  | ok fl =>
    cases fl with
    | ret u => exact I1.after z
    | next => exact False.elim z
    | brk => exact False.elim z
    | cont => exact False.elim z
end

/-! the law's own end over such a promise -/
theorem endG {P : Program} {w : World} {K : PySem.W.Frag} {mg mb : Str → Option Value} {k : Nat} {fa a : Addr} {fd : FuncData} {x : Str} {sp : Sp}
    {s1 : Shared} {us : List Value} {ns : List Int} (KX : K.In s1.heap) (hns : s1.heap.Ns mainGlobals mg) (hb : s1.heap.Ns builtinsNs mb)
    (hbb : ∀ x : Str, x ≠ "__name__" → mb x = bootBuiltins x) (hlim : s1.heap.NoLimit) (hg : s1.gens = #[])
    (ha : s1.heap.get? a = some { cls := .type "list", data := .seq us.toArray }) (hi : IntsAre us ns) (hl : ns.length ≤ sizeLine)
    (room : Room k callerA) (F : ∀ base : Heap, K.In base → base.Ns mainGlobals mg → FnG P w K mg base k fa fd [x] sp)
    (bi : ∀ (s : Shared) (u : Value), BindsTo s fd ⟨[u], []⟩ [(x, u)])
    (want : ∀ H : Hp, Only H → SqL K H a (ns.map V.int) → sp [.ref a] H (fun v _ => v = .bl true) fun _ _ _ => False) :
    codeAny (model P w) callerA (.call (.ref fa) ⟨[.ref a], []⟩)
      (fun r s' => r = .ok (.ret (.bool true)) ∧ OldK s1.heap s'.heap ∧ s'.os = s1.os ∧ AllBare s'.gens) s1 := by
  have rv := vals_ints hi
  have main : ∀ H : Hp, Only H → SqL K H a (ns.map V.int) → HOk P w H s1.heap → (∀ b, H b ≠ none → b = a) → (H a ≠ none → K.lookup a = none) →
      codeAny (model P w) callerA (.call (.ref fa) ⟨[.ref a], []⟩)
        (fun r s' => r = .ok (.ret (.bool true)) ∧ OldK s1.heap s'.heap ∧ s'.os = s1.os ∧ AllBare s'.gens) s1 := by
    intro H only hS hok hA hK
    have dictFree : ∀ {b : Addr} {o : Obj} {es : Array DictEntry} {ep : Nat}, s1.heap.get? b = some o → o.data = .dict es ep → H b = none := by
      intro b o es ep e d
      by_cases z : H b = none
      · exact z
      · have e' := hA b z
        rw [e', ha] at e
        cases e
        cases (show Data.seq us.toArray _ = Data.dict es ep from d)
    have over : ∀ {b : Addr} {m : Str → Option Value}, s1.heap.Ns b m → (hidT s1.heap H).Ns b m := by
      rintro b m ⟨o, es, ep, e, d, r⟩
      exact ⟨o, es, ep, hidT_get e (dictFree e d), d, r⟩
    have KB : K.In (hidT s1.heap H) := by
      intro b o e
      refine hidT_get (KX b o e) ?_
      by_cases z : H b = none
      · exact z
      · have e' := hA b z
        rw [e'] at z e
        rw [hK z] at e
        cases e
    have M : Mod K mg (hidT s1.heap H) := by
      obtain ⟨mc, l1, l2⟩ := hlim
      exact ⟨KB, over hns, ⟨mb, over hb, hbb⟩, ⟨mc, over l1, l2⟩⟩
    have E0' : Env0 P w K mg (hidT s1.heap H) callerA [] s1 H :=
      ⟨rfl, M, fun b o e => of_hidT e, Nat.le_of_eq (hidT_size _ _), trivial, (fun b hb => nomatch (show b ∈ ([] : List Addr) from hb)), hok, .of_eq hg⟩
    refine codeAny_mono ((F _ KB (over hns)).run callerA [] s1 H ⟨[.ref a], []⟩ [.ref a] [.ref a] _ _ room rfl E0' (bi s1 (.ref a)) (.cons rfl .nil) (want H only hS)) ?_
    intro r s' z
    cases r with
    | error e => exact False.elim z
    | ok fl =>
      cases fl with
      | next => exact False.elim z
      | brk => exact False.elim z
      | cont => exact False.elim z
      | ret u =>
        obtain ⟨v, H', os, bare, un, hok2, r1, q⟩ := z
        have q1 : v = .bl true := q
        subst q1
        have q2 : u = Value.bool true := r1
        subst q2
        refine ⟨rfl, OldK.of_keep ?_, os, bare⟩
        intro b o e
        rcases only b with n | ⟨ob, xs, n⟩
        · exact un.keep b o e n (fun y => nomatch (show b ∈ ([] : List Addr) from y)) (fun y => nomatch y)
        · obtain ⟨e1, _⟩ := hok b _ n
          obtain ⟨e2, _⟩ := hok2 b _ (un.frzs b ob _ n)
          rw [e] at e1
          cases e1
          exact e2
  cases hk : K.lookup a with
  | some o =>
    have e := KX a o hk
    rw [ha] at e
    cases e
    refine main (fun _ => none) (fun _ => Or.inl rfl) (Or.inr ⟨_, us.toArray, _, hk, rfl, rfl, rfl, ?_, ?_⟩) ?_ ?_ ?_
    · rw [List.size_toArray, hi.length]; exact hl
    · simpa using rv
    · intro b u z; cases z
    · intro b z; exact absurd rfl z
    · intro z; exact absurd rfl z
  | none =>
    have at_a : (fun b => if b = a then some (HO.frz { cls := .type "list", data := .seq us.toArray } (.lst (ns.map V.int))) else none : Hp) a
      = some (HO.frz { cls := .type "list", data := .seq us.toArray } (.lst (ns.map V.int))) := if_pos rfl
    have off : ∀ b, b ≠ a → (fun b => if b = a then some (HO.frz { cls := .type "list", data := .seq us.toArray } (.lst (ns.map V.int))) else none : Hp) b = none :=
      fun b z => if_neg z
    refine main (fun b => if b = a then some (HO.frz { cls := .type "list", data := .seq us.toArray } (.lst (ns.map V.int))) else none) ?_ (Or.inl (Or.inr ⟨_, at_a⟩)) ?_ ?_ (fun _ => hk)
    · intro b
      by_cases z : b = a
      · subst z; exact Or.inr ⟨_, _, at_a⟩
      · exact Or.inl (off b z)
    · intro b u z
      by_cases y : b = a
      · subst y
        rw [at_a] at z
        cases z
        exact ⟨ha, by rw [List.length_map]; exact hl, us, _, rv, ha⟩
      · rw [off b y] at z; cases z
    · intro b z
      by_cases y : b = a
      · exact y
      · exact absurd (off b y) z

theorem walkG {l : PySem.W.OpenLaw} {n k : Nat} {q : Program} {loose : List Str} {XP : (Str → Option Value) → Heap → Prop} {YP : World → Heap → Prop}
    {d : DefRec} {K : Params → PySem.W.Frag} {sp : World → Sp} {x : Str} (hn : l.most = some n) (hn2 : n ≤ sizeLine) (hdf : d.params.defaults = [])
    (room : Room k callerA) (hY : ∀ (w : World) (h : Heap), YP w h → (K w.params).In h)
    (F : ∀ (w : World) (mg : Str → Option Value) (fa : Addr) (h : Heap), (K w.params).In h → h.Ns mainGlobals mg → mg d.name = some (.ref fa) →
      ∃ fd : FuncData, (∀ (s : Shared) (u : Value), BindsTo s fd ⟨[u], []⟩ [(x, u)]) ∧
        ∀ base : Heap, (K w.params).In base → base.Ns mainGlobals mg → FnG l.prog w (K w.params) mg base k fa fd [x] (sp w))
    (want : ∀ (w : World) (H : Hp) (a : Addr) (ns : List Int), ns.length ≤ n → Only H → SqL (K w.params) H a (ns.map V.int) →
      sp w [.ref a] H (fun v _ => v = .bl true) fun _ _ _ => False) :
    PySem.W.WalkO q loose XP YP l.row.toRowW d [] (fun f vs => PySem.call f vs) := by
  refine Att.attach_call hn hdf ?_
  intro w s0 s1 mg mb fa o pm cd doc a us ns G Y ho hd hcd hmg hobj hints hlen hg
  have KX := hY w _ Y
  obtain ⟨fd, b1, b2⟩ := F w mg fa _ KX G.T.g hmg
  exact endG KX G.T.g G.T.b G.T.builtins G.T.nolimit hg hobj hints (Nat.le_trans hlen hn2) room b2 b1 (fun H only hS => want w H a ns hlen only hS)
end My
namespace My
open PySem PySem.Spec PyProof.Rows L2

/-! l[a:c] = another list -/
def gSlc (to : TE) (tl th : TO) : TG := fun v sg H Q => to sg H fun o H1 => tl sg H1 fun lo H2 => th sg H2 fun hi H3 =>
  ∃ (l b : Addr) (xs ys : List V) (a c : Int), o = .ref l ∧ v = .ref b ∧ lo = some a ∧ hi = some c ∧ H3 l = some (.lst xs) ∧ H3 b = some (.lst ys) ∧ l ≠ b ∧
    0 ≤ a ∧ a ≤ c ∧ c ≤ xs.length ∧ xs.length + ys.length ≤ sizeLine ∧ Q sg (upd H3 l (.lst (xs.take a.toNat ++ ys ++ xs.drop c.toNat)))
theorem pg_slc {X : Cx} {o : Expr} {lo hi : Option Expr} {p2 pos : Pos} {to : TE} {tl th : TO} (ho : PE X o to) (hl : PO X lo tl) (hh : PO X hi th)
    (ha : ∀ v, assign (.Subscript o (.Slice lo hi none p2) pos) X.env v = (do
      let ov ← holding [v] (eval o X.env)
      let iv ← holding [v, ov] (eval (.Slice lo hi none p2) X.env)
      standAt pos
      holding [v, ov, iv] (setItem ov iv v)
      release [iv, v, ov] []) := by intro _; rfl) : PG X (.Subscript o (.Slice lo hi none p2) pos) (gSlc to tl th) := by
  refine ⟨fun pins s sg H v u Q I r want => ?_⟩
  rw [ha]
  refine wpAny_bind (wpAny_holding (thn (ho.run pins s sg H _ I want) ?_))
  rintro ov s1 ⟨x, H1, I1, r1, q1⟩
  refine wpAny_bind (wpAny_holding (wpAny_Slice (thn (hl.run pins s1 sg H1 _ I1 q1) ?_)))
  rintro vl s2 ⟨la, H2, I2, pl, q2⟩
  refine thn (hh.run pins s2 sg H2 _ I2 q2) ?_
  rintro vu s3 ⟨ua, H3, I3, pu, q3⟩
  rw [evalPart_none]
  refine wpAny_pure ?_
  have I4 : Inv X pins sg H3 { s3 with heap := s3.heap.push { cls := .type "slice", data := .fields #[vl, vu, .none] } } :=
    I3.kept (t' := s3.toks) (fun b ob q => Heap.get?_push_of_some _ q)
  obtain ⟨l, b, xs, ys, a, c, rfl, rfl, rfl, rfl, hx, hy, ne, h0, h1, h2, hz, q⟩ := q3
  have e1 : ov = Value.ref l := r1
  have e2 : u = Value.ref b := r
  subst e1 e2
  have ra : RelV (.int a) vl := by cases pl; exact ⟨_, rfl⟩
  have rc : RelV (.int c) vu := by cases pu; exact ⟨_, rfl⟩
  refine wpAny_bind (wpAny_standAt (wpAny_bind (wpAny_holding ?_)))
  refine set_slice I4 hx hy ne (Heap.IsSliceOf.new ..) ra rc h0 h1 h2 hz (fun s5 I5 => ?_)
  exact wpAny_release ⟨sg, _, I5, q⟩

/-! l.count(x) where the items and x are data -/
def rCnt (K : PySem.W.Frag) : V → List V → Hp → VK → Prop := fun x xs H Q => ∃ (a : Addr) (y : V) (d : PyData) (ds : List PyData), x = V.ref a ∧ xs = [y] ∧
  Dp K H (V.ref a) (.list ds) ∧ Dp K H y d ∧ SeqAt.shaped (.list ds) = true ∧ SeqAt.shaped d = true ∧ Q (.int (ds.countP (fun z => PyData.eqv z d) : Nat)) H
theorem mt_cnt {X : Cx} (hu : X.A.units + 65 < cLine) : MtR X "list.count" (rCnt X.K) := by
  intro pins s sg H x xs v us Q I rx rxs want
  obtain ⟨a, y, d, ds, rfl, rfl, hl, hy, sl, sd, q⟩ := want
  have e1 : v = Value.ref a := rx
  subst e1
  obtain ⟨uy, rfl, ry⟩ := rxs.one
  obtain ⟨bs, r1⟩ := Dp.reads I d y uy hy ry
  have lay : PyData.canLayAll0 ds = true := SeqAt.canLay_of_shaped sl
  cases hl with
  | lst hs hall =>
    obtain ⟨its, rv, ⟨⟨cls, dd, data, sls⟩, n, ho, hc, hdn, hdt⟩, hlen⟩ := I.list hs
    simp only at hc hdt
    subst hc hdt
    obtain ⟨as, r2⟩ := Dp.readsAll I ds _ its hall rv
    have mp : its.map (SeqAt.readOf s.heap) = ds := SeqAt.readsAll_map ds its as lay r2
    refine call_meets PySem.F.slot_list_count ⟨_, ho, rfl⟩ PySem.F.entry_list_count (PySem.F.args_list_count_2 _ _)
      (SeqAt.list_countAt a its.toArray n dd sls uy (fun u => PyData.eqv (SeqAt.readOf s.heap u) d))
      ⟨ho, SeqAt.items_eqAt (vs := its.toArray) (show ReadsAll s.heap its.toArray.toList ds as from r2) r1 lay (SeqAt.canLay_of_shaped sd) (room_in_shaped sd hu), ?_⟩
    refine ⟨.int (ds.countP (fun z => PyData.eqv z d) : Nat), H, I.tok _, ⟨s.toks, ?_⟩, q⟩
    rw [← mp, List.countP_map]
    rfl
end My
namespace My
open PySem PySem.Spec PyProof.Rows L2

/-! heaps -/
theorem same0 {H H' : Hp} {p : Addr} {o : HO} (sm : Same H H') (n : H p = none) : Same H (upd H' p o) := fun b u e => by
  rw [upd_ne (ne_of_none e n)]
  exact sm b u e
theorem sameN {H : Hp} {p : Addr} {o : HO} (n : H p = none) : Same H (upd H p o) := same0 (Same.refl H) n

/-- at the addresses qs stand lists with the rows bs -/
structure Rws (H : Hp) (qs : List Addr) (bs : List (List V)) : Prop where
  len : qs.length = bs.length
  nd : qs.Nodup
  get : ∀ (j : Nat) (q : Addr) (b : List V), qs[j]? = some q → bs[j]? = some b → H q = some (.lst b)
theorem Rws.nil {H : Hp} : Rws H [] [] := ⟨rfl, List.nodup_nil, fun j q b e => by simp at e⟩
theorem Rws.off {H : Hp} {qs : List Addr} {bs : List (List V)} (R : Rws H qs bs) {p : Addr} {o : HO} (n : p ∉ qs) : Rws (upd H p o) qs bs :=
  ⟨R.len, R.nd, fun j q b e1 e2 => by
    have ne : q ≠ p := fun z => n (by rw [← z]; exact List.mem_of_getElem? e1)
    rw [upd_ne ne]
    exact R.get j q b e1 e2⟩
theorem Rws.same {H H' : Hp} {qs : List Addr} {bs : List (List V)} (R : Rws H qs bs) (s : Same H H') : Rws H' qs bs :=
  ⟨R.len, R.nd, fun j q b e1 e2 => s _ _ (R.get j q b e1 e2)⟩
theorem Rws.at' {H : Hp} {qs : List Addr} {bs : List (List V)} (R : Rws H qs bs) {q : Addr} (h : q ∈ qs) : ∃ (j : Nat) (b : List V), qs[j]? = some q ∧ bs[j]? = some b ∧ H q = some (.lst b) := by
  obtain ⟨j, hj⟩ := List.mem_iff_getElem?.mp h
  have hl : j < bs.length := by rw [← R.len]; exact (List.getElem?_eq_some_iff.mp hj).1
  exact ⟨j, bs[j], hj, List.getElem?_eq_getElem hl, R.get _ _ _ hj (List.getElem?_eq_getElem hl)⟩
theorem Rws.there {H : Hp} {qs : List Addr} {bs : List (List V)} (R : Rws H qs bs) {q : Addr} (h : q ∈ qs) : H q ≠ none := by
  obtain ⟨j, b, _, _, e⟩ := R.at' h
  rw [e]; exact fun z => nomatch z
theorem Rws.push {H : Hp} {qs : List Addr} {bs : List (List V)} (R : Rws H qs bs) {p : Addr} {b : List V} (n : H p = none) : Rws (upd H p (.lst b)) (qs ++ [p]) (bs ++ [b]) := by
  have np : p ∉ qs := fun h => R.there h n
  refine ⟨by rw [List.length_append, List.length_append, R.len]; rfl, ?_, ?_⟩
  · refine List.nodup_append.mpr ⟨R.nd, by simp, ?_⟩
    intro x hx y hy e
    have e2 : y = p := by simpa using hy
    exact np (e2 ▸ e ▸ hx)
  · intro j q c e1 e2
    rcases Nat.lt_or_ge j qs.length with z | z
    · rw [List.getElem?_append_left z] at e1
      rw [List.getElem?_append_left (R.len ▸ z)] at e2
      exact (R.off np).get j q c e1 e2
    · rw [List.getElem?_append_right z] at e1
      rw [List.getElem?_append_right (R.len ▸ z), ← R.len] at e2
      cases hk : j - qs.length with
      | zero =>
        rw [hk] at e1 e2
        cases e1
        cases e2
        exact upd_same
      | succ m =>
        rw [hk] at e1
        simp at e1
theorem Rws.put {H : Hp} {qs : List Addr} {bs : List (List V)} (R : Rws H qs bs) {j : Nat} {q : Addr} {b : List V} (e : qs[j]? = some q) : Rws (upd H q (.lst b)) qs (bs.set j b) := by
  refine ⟨by rw [List.length_set]; exact R.len, R.nd, ?_⟩
  intro i r c e1 e2
  by_cases z : i = j
  · subst z
    rw [e] at e1
    cases e1
    have hl : i < bs.length := by rw [← R.len]; exact (List.getElem?_eq_some_iff.mp e).1
    rw [List.getElem?_set_self hl] at e2
    cases e2
    exact upd_same
  · rw [List.getElem?_set_ne (fun y => z y.symm)] at e2
    have ne : r ≠ q := fun y => z (nd_ix R.nd (y ▸ e1) e)
    rw [upd_ne ne]
    exact R.get i r c e1 e2

/-! blocks -/
def put (bs : List (List Int)) (n : Int) : List (List Int) :=
  match bs.getLast? with
  | none => [[n]]
  | some l => if l.headD 0 < n then bs ++ [[n]] else bs.dropLast ++ [l ++ [n]]
def cut (ns : List Int) : List (List Int) := ns.foldl put []
theorem cut_snoc (ns : List Int) (n : Int) : cut (ns ++ [n]) = put (cut ns) n := by
  unfold cut
  rw [List.foldl_append]
  rfl
theorem put_nil (n : Int) : put [] n = [[n]] := rfl
theorem put_snoc (ini : List (List Int)) (l : List Int) (n : Int) : put (ini ++ [l]) n = if l.headD 0 < n then (ini ++ [l]) ++ [[n]] else ini ++ [l ++ [n]] := by
  unfold put
  rw [List.getLast?_concat, List.dropLast_concat]
/-- what holds of the blocks of ns -/
structure Good (ns : List Int) (bs : List (List Int)) : Prop where
  flat : bs.flatten = ns
  ne : ∀ b ∈ bs, b ≠ []
  last : bs = [] ∨ ∃ ini x r, bs = ini ++ [x :: r] ∧ x ∈ ns ∧ ∀ y ∈ ns, y ≤ x
theorem good_step {ns : List Int} {bs : List (List Int)} (G : Good ns bs) (n : Int) : Good (ns ++ [n]) (put bs n) := by
  rcases G.last with e | ⟨ini, x, r, e, hx, hm⟩
  · subst e
    have e2 : ns = [] := by rw [← G.flat]; rfl
    subst e2
    exact ⟨rfl, by simp [put_nil], Or.inr ⟨[], n, [], rfl, by simp, by simp⟩⟩
  · subst e
    rw [put_snoc]
    by_cases h : (x :: r).headD 0 < n
    · rw [if_pos h]
      have h' : x < n := h
      refine ⟨by rw [List.flatten_append, G.flat]; rfl, ?_, Or.inr ⟨ini ++ [x :: r], n, [], rfl, by simp, ?_⟩⟩
      · intro b hb
        rcases List.mem_append.mp hb with z | z
        · exact G.ne b z
        · have : b = [n] := by simpa using z
          rw [this]; simp
      · intro y hy
        rcases List.mem_append.mp hy with z | z
        · have := hm y z; omega
        · have : y = n := by simpa using z
          omega
    · rw [if_neg h]
      have h' : ¬ x < n := h
      refine ⟨?_, ?_, Or.inr ⟨ini, x, r ++ [n], rfl, List.mem_append_left _ hx, ?_⟩⟩
      · have f := G.flat
        rw [List.flatten_append] at f ⊢
        rw [← f]
        simp
      · intro b hb
        rcases List.mem_append.mp hb with z | z
        · exact G.ne b (List.mem_append_left _ z)
        · have : b = x :: r ++ [n] := by simpa using z
          rw [this]; simp
      · intro y hy
        rcases List.mem_append.mp hy with z | z
        · exact hm y z
        · have : y = n := by simpa using z
          omega
theorem good_from : ∀ (rest pre : List Int), Good pre (cut pre) → Good (pre ++ rest) (cut (pre ++ rest))
  | [], pre, h => by rw [List.append_nil]; exact h
  | n :: rest, pre, h => by
    have h2 := good_step h n
    rw [← cut_snoc] at h2
    have h3 := good_from rest (pre ++ [n]) h2
    rw [List.append_assoc] at h3
    exact h3
theorem good_cut (ns : List Int) : Good ns (cut ns) := good_from ns [] ⟨rfl, by simp [cut], Or.inl rfl⟩
theorem cut_take {ns : List Int} {i : Nat} {n : Int} (h : ns[i]? = some n) : cut (ns.take (i + 1)) = put (cut (ns.take i)) n := by
  rw [List.take_add_one, h]
  exact cut_snoc _ _
theorem flat_len : ∀ {bs : List (List Int)}, (∀ b ∈ bs, b ≠ []) → bs.length ≤ bs.flatten.length
  | [], _ => Nat.zero_le _
  | b :: bs, h => by
    have ih := flat_len (bs := bs) fun c hc => h c (List.mem_cons_of_mem _ hc)
    have hb := h b (List.mem_cons_self ..)
    cases b with
    | nil => exact absurd rfl hb
    | cons x r =>
      rw [List.flatten_cons, List.length_append, List.length_cons, List.length_cons]
      omega
theorem flat_mem_len : ∀ {bs : List (List Int)} {b : List Int}, b ∈ bs → b.length ≤ bs.flatten.length
  | c :: bs, b, h => by
    rw [List.flatten_cons, List.length_append]
    rcases List.mem_cons.mp h with e | e
    · rw [e]; omega
    · have := flat_mem_len (bs := bs) e
      omega
theorem Good.len {ns : List Int} {bs : List (List Int)} (G : Good ns bs) : bs.length ≤ ns.length := by
  have := flat_len G.ne
  rw [G.flat] at this
  exact this
theorem Good.rowlen {ns : List Int} {bs : List (List Int)} (G : Good ns bs) {b : List Int} (h : b ∈ bs) : b.length ≤ ns.length := by
  have := flat_mem_len h
  rw [G.flat] at this
  exact this
/-- the law's own question: is a number before it greater? -/
theorem cut_ask {ns : List Int} {n : Int} (nd : (ns ++ [n]).Nodup) : (ns.filter fun o => decide (n < o)) = [] ↔ (cut ns = [] ∨ ∃ ini x r, cut ns = ini ++ [x :: r] ∧ x < n) := by
  have G := good_cut ns
  constructor
  · intro h
    rcases G.last with e | ⟨ini, x, r, e, hx, hm⟩
    · exact Or.inl e
    · refine Or.inr ⟨ini, x, r, e, ?_⟩
      have h1 := (List.filter_eq_nil_iff.mp h) x hx
      have h2 : ¬ n < x := fun z => h1 (decide_eq_true z)
      have h3 : x ≠ n := fun z => by
        have := (List.nodup_append.mp nd).2.2 x hx n (by simp)
        exact this z
      omega
  · intro h
    refine List.filter_eq_nil_iff.mpr ?_
    intro y hy
    rcases h with e | ⟨ini, x, r, e, hlt⟩
    · have : ns = [] := by rw [← G.flat, e]; rfl
      rw [this] at hy
      simp at hy
    · rcases G.last with e2 | ⟨ini2, x2, r2, e2, hx2, hm2⟩
      · rw [e2] at e
        simp at e
      · rw [e2] at e
        have e3 := (List.append_inj' e rfl).2
        have e4 : x2 = x := by simpa using (List.cons.inj (List.cons.inj e3).1).1
        have := hm2 y hy
        have : ¬ n < y := by omega
        simpa using this
end My
namespace My
open PySem PySem.Spec PyProof.Rows L2
theorem erase_perm {α : Type} : ∀ {l : List α} {k : Nat} {y : α}, l[k]? = some y → (y :: l.eraseIdx k).Perm l
  | [], k, y, h => by simp at h
  | x :: l, 0, y, h => by
    have e : x = y := Option.some.inj h
    subst e
    exact List.Perm.refl _
  | x :: l, k + 1, y, h => by
    have ih := erase_perm (l := l) (k := k) (y := y) h
    exact (List.Perm.swap x y _).trans (List.Perm.cons x ih)
theorem erase_map {α β : Type} (g : α → β) : ∀ (l : List α) (k : Nat), (l.map g).eraseIdx k = (l.eraseIdx k).map g
  | [], _ => rfl
  | _ :: _, 0 => rfl
  | x :: l, k + 1 => by
    show g x :: (l.map g).eraseIdx k = g x :: (l.eraseIdx k).map g
    rw [erase_map g l k]
/-- two neighbours turned -/
def swp (fs : List Int) (t : Nat) : List Int := fs.take t ++ ((fs.drop t).take 2).reverse ++ fs.drop (t + 2)
theorem swp_perm (fs : List Int) (t : Nat) : (swp fs t).Perm fs := by
  unfold swp
  have e : fs = fs.take t ++ ((fs.drop t).take 2 ++ fs.drop (t + 2)) := by
    have h1 : (fs.drop t).take 2 ++ (fs.drop t).drop 2 = fs.drop t := List.take_append_drop ..
    rw [List.drop_drop] at h1
    rw [show t + 2 = t + 2 from rfl, h1, List.take_append_drop]
  rw [List.append_assoc]
  refine List.Perm.trans ?_ (List.Perm.of_eq e.symm)
  exact List.Perm.append_left _ (List.Perm.append_right _ (List.reverse_perm _))
theorem cut_two {fs : List Int} {t : Nat} (h : t + 2 ≤ fs.length) : cutV (fs.map V.int) (some (t : Int)) (some ((t : Int) + 2)) = ((fs.drop t).take 2).map V.int := by
  unfold cutV
  have e : ((t : Int) + 2) = ((t + 2 : Nat) : Int) := rfl
  rw [e, HT.sIx_nat, HT.sIx_nat, List.length_map]
  have h1 : min t fs.length = t := Nat.min_eq_left (by omega)
  have h2 : min (t + 2) fs.length = t + 2 := Nat.min_eq_left h
  rw [h1, h2, Nat.add_sub_cancel_left, List.map_take, List.map_drop]
theorem swp_vals {fs : List Int} {t : Nat} (h : t + 2 ≤ fs.length) :
    (fs.map V.int).take (t : Int).toNat ++ (((fs.drop t).take 2).map V.int).reverse ++ (fs.map V.int).drop ((t : Int) + 2).toNat = (swp fs t).map V.int := by
  have e1 : (t : Int).toNat = t := Int.toNat_natCast t
  have e2 : ((t : Int) + 2).toNat = t + 2 := by omega
  rw [e1, e2]
  unfold swp
  simp only [List.map_append, List.map_take, List.map_drop, List.map_reverse]
theorem pick4 (a b c d : Int) {v : Int} (h0 : 0 ≤ v) (h1 : v < 4) (p : Int → Prop) (ha : p a) (hb : p b) (hc : p c) (hd : p d) :
    ∃ g, atI [V.int a, V.int b, V.int c, V.int d] v = some (.int g) ∧ p g := by
  have hv : v = ((0 : Nat) : Int) ∨ v = ((1 : Nat) : Int) ∨ v = ((2 : Nat) : Int) ∨ v = ((3 : Nat) : Int) := by omega
  rcases hv with e | e | e | e
  · exact ⟨a, by rw [e]; exact atI_nat rfl, ha⟩
  · exact ⟨b, by rw [e]; exact atI_nat rfl, hb⟩
  · exact ⟨c, by rw [e]; exact atI_nat rfl, hc⟩
  · exact ⟨d, by rw [e]; exact atI_nat rfl, hd⟩
theorem pick3 (a b c : Int) {v : Int} (h0 : 0 ≤ v) (h1 : v < 3) (p : Int → Prop) (ha : p a) (hb : p b) (hc : p c) :
    ∃ g, atI [V.int a, V.int b, V.int c] v = some (.int g) ∧ p g := by
  have hv : v = ((0 : Nat) : Int) ∨ v = ((1 : Nat) : Int) ∨ v = ((2 : Nat) : Int) := by omega
  rcases hv with e | e | e
  · exact ⟨a, by rw [e]; exact atI_nat rfl, ha⟩
  · exact ⟨b, by rw [e]; exact atI_nat rfl, hb⟩
  · exact ⟨c, by rw [e]; exact atI_nat rfl, hc⟩
theorem asc_nodup {fs : List Int} (h : fs.Pairwise (· < ·)) : fs.Nodup := h.imp fun z => by omega
/-- all but what stands at D is as it was -/
def But (D : Addr) (H H' : Hp) : Prop := ∀ b o, b ≠ D → H b = some o → H' b = some o
theorem But.refl (D : Addr) (H : Hp) : But D H H := fun _ _ _ h => h
theorem But.trans {D : Addr} {H H1 H2 : Hp} (a : But D H H1) (b : But D H1 H2) : But D H H2 := fun c o n h => b c o n (a c o n h)
theorem But.of {D : Addr} {H H' : Hp} (s : Same H H') : But D H H' := fun b o _ h => s b o h
theorem But.updD {D : Addr} {H H' : Hp} {o : HO} (s : But D H H') : But D H (upd H' D o) := fun b u n e => by
  rw [upd_ne n]
  exact s b u n e
theorem But.updN {D p : Addr} {H H' : Hp} {o : HO} (s : But D H H') (n : H p = none) : But D H (upd H' p o) := fun b u nb e => by
  rw [upd_ne (ne_of_none e n)]
  exact s b u nb e
theorem But.free {D p : Addr} {H H' : Hp} (s : But D H H') (np : p ≠ D) (n : H' p = none) : H p = none := by
  cases e : H p with
  | none => rfl
  | some o =>
    rw [s p o np e] at n
    cases n
end My
namespace My
open PySem PySem.Spec PyProof.Rows L2
theorem put_new {pre : List Int} {n : Int} (h : cut pre = [] ∨ ∃ ini x r, cut pre = ini ++ [x :: r] ∧ x < n) : put (cut pre) n = cut pre ++ [[n]] := by
  rcases h with e | ⟨ini, x, r, e, l⟩
  · rw [e]; rfl
  · rw [e, put_snoc]
    exact if_pos l
theorem put_old {pre : List Int} {n : Int} (h : ¬ (cut pre = [] ∨ ∃ ini x r, cut pre = ini ++ [x :: r] ∧ x < n)) :
    ∃ ini x r, cut pre = ini ++ [x :: r] ∧ put (cut pre) n = ini ++ [(x :: r) ++ [n]] := by
  rcases (good_cut pre).last with e | ⟨ini, x, r, e, _, _⟩
  · exact absurd (Or.inl e) h
  · refine ⟨ini, x, r, e, ?_⟩
    rw [e, put_snoc]
    exact if_neg fun z => h (Or.inr ⟨ini, x, r, e, z⟩)
theorem cut_to {xs : List V} (j : Nat) : cutV xs none (some (j : Int)) = xs.take j := by
  unfold cutV
  rw [HT.sIx_nat, HT.sIx_none, List.drop_zero, Nat.sub_zero]
  rcases Nat.le_total j xs.length with h | h
  · rw [Nat.min_eq_left h]
  · rw [Nat.min_eq_right h, List.take_of_length_le (Nat.le_refl _), List.take_of_length_le h]

/-! data -/
def dI (ns : List Int) : PyData := .list (ns.map .int)
def dR (bs : List (List Int)) : PyData := .list (bs.map dI)
theorem dpAll_ints {K : PySem.W.Frag} {H : Hp} : ∀ ns : List Int, DpAll K H (ns.map V.int) (ns.map PyData.int)
  | [] => .nil
  | n :: ns => .cons (.int n) (dpAll_ints ns)
theorem dpI {K : PySem.W.Frag} {H : Hp} {a : Addr} {ns : List Int} (h : SqL K H a (ns.map V.int)) : Dp K H (.ref a) (dI ns) := .lst h (dpAll_ints ns)
theorem dpAll_rows {K : PySem.W.Frag} {H : Hp} : ∀ {qs : List Addr} {bs : List (List Int)}, qs.length = bs.length →
    (∀ (j : Nat) (q : Addr) (b : List Int), qs[j]? = some q → bs[j]? = some b → H q = some (.lst (b.map V.int))) → DpAll K H (qs.map V.ref) (bs.map dI)
  | [], [], _, _ => .nil
  | q :: qs, b :: bs, hl, h => .cons (dpI (SqL.of (h 0 q b rfl rfl))) (dpAll_rows (by simpa using hl) fun j q' b' e1 e2 => h (j + 1) q' b' e1 e2)
  | [], _ :: _, hl, _ => by cases hl
  | _ :: _, [], hl, _ => by cases hl
theorem dpR {K : PySem.W.Frag} {H : Hp} {p : Addr} {qs : List Addr} {bs : List (List Int)} (h : H p = some (.lst (qs.map V.ref))) (R : Rws H qs (bs.map fun b => b.map V.int)) : Dp K H (.ref p) (dR bs) := by
  refine .lst (SqL.of h) (dpAll_rows (by have := R.len; rwa [List.length_map] at this) ?_)
  intro j q b e1 e2
  exact R.get j q _ e1 (by rw [List.getElem?_map, e2]; rfl)
theorem lay_ints : ∀ ns : List Int, PyData.canLayAll0 (ns.map PyData.int) = true
  | [] => by simp [PyData.canLayAll0]
  | n :: ns => by simp [PyData.canLayAll0, PyData.canLay0, lay_ints ns]
theorem dep_ints : ∀ ns : List Int, PyData.depthAll (ns.map PyData.int) ≤ 1
  | [] => by simp [PyData.depthAll]
  | n :: ns => by
    have := dep_ints ns
    simp only [List.map_cons, PyData.depthAll, PyData.depth]
    omega
theorem dI_depth (ns : List Int) : (dI ns).depth ≤ 2 := by
  have := dep_ints ns
  unfold dI
  simp only [PyData.depth]
  omega
theorem dR_depthAll : ∀ bs : List (List Int), PyData.depthAll (bs.map dI) ≤ 2
  | [] => by simp [PyData.depthAll]
  | b :: bs => by
    have h1 := dR_depthAll bs
    have h2 := dI_depth b
    simp only [List.map_cons, PyData.depthAll]
    omega
theorem dR_depth (bs : List (List Int)) : (dR bs).depth ≤ 3 := by
  have := dR_depthAll bs
  unfold dR
  simp only [PyData.depth]
  omega
theorem shaped_I (ns : List Int) : SeqAt.shaped (dI ns) = true := by
  have h := dI_depth ns
  show ((dI ns).canLay0 && decide ((dI ns).depth ≤ 64)) = true
  rw [Bool.and_eq_true]
  refine ⟨?_, decide_eq_true (by omega)⟩
  unfold dI
  simp only [PyData.canLay0]
  exact lay_ints ns
theorem eqv_empty (ds : List PyData) : PyData.eqv (.list ds) (.list []) = ds.isEmpty := by
  cases ds with
  | nil => simp [PyData.eqv, PyData.eqvAll]
  | cons d r => simp [PyData.eqv, PyData.eqvAll]
/-- numbers whose text is short -/
def Sh (ns : List Int) : Prop := ∀ x ∈ ns, -(10 ^ 32) < x ∧ x < 10 ^ 32
theorem show_I : ∀ ns : List Int, Sh ns → PyData.showableAll (ns.map PyData.int) = true
  | [], _ => by simp [PyData.showableAll]
  | n :: ns, h => by
    have h1 := h n (List.mem_cons_self ..)
    have h2 := show_I ns fun x hx => h x (List.mem_cons_of_mem _ hx)
    have z := PySem.Flt.log2_lt_of (show 0 < 120 by decide) (show n.natAbs < 2 ^ 120 by omega)
    have h3 : n.natAbs.log2 < 1920 := by omega
    simp [PyData.showableAll, PyData.showable, h2, h3]
theorem nodict_I : ∀ ns : List Int, PyData.hasDictAll (ns.map PyData.int) = false
  | [] => by simp [PyData.hasDictAll]
  | n :: ns => by simp [PyData.hasDictAll, PyData.hasDict, nodict_I ns]
theorem show_R : ∀ bs : List (List Int), (∀ b ∈ bs, Sh b) → PyData.showableAll (bs.map dI) = true
  | [], _ => by simp [PyData.showableAll]
  | b :: bs, h => by
    have h1 := show_I b (h b (List.mem_cons_self ..))
    have h2 := show_R bs fun x hx => h x (List.mem_cons_of_mem _ hx)
    have h3 : (dI b).showable = true := by unfold dI; simp only [PyData.showable]; exact h1
    simp [PyData.showableAll, h2, h3]
theorem nodict_R : ∀ bs : List (List Int), PyData.hasDictAll (bs.map dI) = false
  | [] => by simp [PyData.hasDictAll]
  | b :: bs => by
    have h3 : (dI b).hasDict = false := by unfold dI; simp only [PyData.hasDict]; exact nodict_I b
    simp [PyData.hasDictAll, h3, nodict_R bs]
theorem int_len {i : Int} (h : -(10 ^ 32) < i ∧ i < 10 ^ 32) : (PyData.int i).shown.length ≤ 33 := by
  have e := PySem.int_text_length_le10 (a := i) (k := 32) (by decide) (by omega)
  rw [PyData.shown_int]
  show (Str.ofString (toString i)).length ≤ 33
  rw [PySem.ofString_length]
  exact e
theorem sumI : ∀ ns : List Int, Sh ns → ((PyData.shownAll (ns.map PyData.int)).map (·.length)).sum ≤ 33 * ns.length
  | [], _ => by simp [PyData.shownAll]
  | n :: ns, h => by
    have h1 := int_len (h n (List.mem_cons_self ..))
    have h2 := sumI ns fun x hx => h x (List.mem_cons_of_mem _ hx)
    simp only [List.map_cons, PyData.shownAll, List.sum_cons, List.length_cons]
    omega
theorem dI_len {ns : List Int} (h : Sh ns) : (dI ns).shown.length ≤ 35 * ns.length + 3 := by
  have h1 := listText_len_le (PyData.shownAll (ns.map PyData.int))
  have h2 := sumI ns h
  rw [PyData.shownAll_length, List.length_map] at h1
  unfold dI
  simp only [PyData.shown]
  omega
theorem sumR (m : Nat) : ∀ bs : List (List Int), (∀ b ∈ bs, Sh b ∧ b.length ≤ m) → ((PyData.shownAll (bs.map dI)).map (·.length)).sum ≤ (35 * m + 3) * bs.length
  | [], _ => by simp [PyData.shownAll]
  | b :: bs, h => by
    obtain ⟨h0, h0'⟩ := h b (List.mem_cons_self ..)
    have h1 := dI_len h0
    have h2 := sumR m bs fun x hx => h x (List.mem_cons_of_mem _ hx)
    simp only [List.map_cons, PyData.shownAll, List.sum_cons, List.length_cons, Nat.mul_add]
    omega
theorem dR_len {bs : List (List Int)} (h : ∀ b ∈ bs, Sh b ∧ b.length ≤ 300) (hl : bs.length ≤ 300) : (dR bs).shown.length ≤ sizeLine := by
  have h1 := listText_len_le (PyData.shownAll (bs.map dI))
  have h2 := sumR 300 bs h
  rw [PyData.shownAll_length, List.length_map] at h1
  have h3 : (35 * 300 + 3) * bs.length ≤ (35 * 300 + 3) * 300 := Nat.mul_le_mul_left _ hl
  have e : (dR bs).shown = listText (PyData.shownAll (bs.map dI)) := by unfold dR; simp only [PyData.shown]
  rw [e]
  unfold sizeLine
  omega
/-- what repr asks of them -/
theorem askI {ns : List Int} (h : Sh ns) (hl : ns.length ≤ 4000) : (dI ns).showable = true ∧ (dI ns).hasDict = false ∧ (dI ns).shown.length ≤ sizeLine ∧ (dI ns).depth ≤ 60 := by
  refine ⟨?_, ?_, ?_, ?_⟩
  · unfold dI; simp only [PyData.showable]; exact show_I ns h
  · unfold dI; simp only [PyData.hasDict]; exact nodict_I ns
  · have := dI_len h
    unfold sizeLine
    omega
  · have := dI_depth ns
    omega
theorem askR {bs : List (List Int)} (h : ∀ b ∈ bs, Sh b ∧ b.length ≤ 300) (hl : bs.length ≤ 300) : (dR bs).showable = true ∧ (dR bs).hasDict = false ∧ (dR bs).shown.length ≤ sizeLine ∧ (dR bs).depth ≤ 60 := by
  refine ⟨?_, ?_, dR_len h hl, ?_⟩
  · unfold dR; simp only [PyData.showable]; exact show_R bs fun b hb => (h b hb).1
  · unfold dR; simp only [PyData.hasDict]; exact nodict_R bs
  · have := dR_depth bs
    omega
theorem Good.sh {ns : List Int} {bs : List (List Int)} (G : Good ns bs) (h : Sh ns) (hl : ns.length ≤ 300) : ∀ b ∈ bs, Sh b ∧ b.length ≤ 300 := by
  intro b hb
  refine ⟨fun x hx => h x ?_, Nat.le_trans (G.rowlen hb) hl⟩
  rw [← G.flat]
  exact List.mem_flatten.mpr ⟨b, hb, hx⟩

/-! a loop over enumerate(a) -/
theorem for_en {K : PySem.W.Frag} {a : Addr} {xs : List V} {g : TG} {tb : TS} {D : Ends} {sg : L2.St} {H : Hp} (Pv : Nat → L2.St → Hp → Prop) (start : Pv 0 sg H)
    (stays : ∀ i sg H, i ≤ xs.length → Pv i sg H → SqL K H a xs)
    (turn : ∀ i x sg H T, xs[i]? = some x → Pv i sg H → H T = none → g (.ref T) sg (upd H T (.tup [.int (i : Nat), x])) fun sg2 H2 => tb { D with nx := Pv (i + 1), ct := Pv (i + 1), bk := D.nx } sg2 H2)
    (last : ∀ sg H, Pv xs.length sg H → D.nx sg H) :
    ∃ W : Nat → Nat → L2.St → Hp → Prop, (∃ m, W 0 m sg H) ∧ ∀ i m sg H, W i m sg H →
      ((Ite K a).stop i H ∧ D.nx sg H) ∨ ((Ite K a).go i H ∧ ∃ N : L2.St → Hp → Prop, (∀ s' H', N s' H' → ∃ m', m' < m ∧ W (i + 1) m' s' H') ∧
        ∀ x H', (Ite K a).yld i H x H' → g x sg H' fun sg2 H2 => tb { D with nx := N, ct := N, bk := D.nx } sg2 H2) := by
  refine ⟨fun i m s H => m = xs.length - i ∧ i ≤ xs.length ∧ Pv i s H, ⟨xs.length, rfl, Nat.zero_le _, start⟩, ?_⟩
  rintro i m s H ⟨em, le, p⟩
  have sq := stays i s H le p
  rcases Nat.lt_or_ge i xs.length with lt | ge
  · have at1 : xs[i]? = some xs[i] := List.getElem?_eq_getElem lt
    refine Or.inr ⟨⟨xs, xs[i], sq, at1⟩, Pv (i + 1), ?_, ?_⟩
    · intro s' H' p'
      exact ⟨xs.length - (i + 1), by omega, rfl, lt, p'⟩
    · rintro x H' ⟨T, y, e1, nT, e2, f⟩
      have ey := f xs sq
      subst e1 e2
      exact turn i y s H T ey p nT
  · have e : i = xs.length := by omega
    subst e
    exact Or.inl ⟨⟨xs, sq, Nat.le_refl _⟩, last s H p⟩
end My
namespace My
open PySem PySem.Spec PyProof.Rows L2

def topS (i : Nat) : Stmt := PySem.Challenge.pw_leastheads_k02_blocks_of_numbers.main.body.getD i (.Pass ⟨0, 0, 0, 0⟩)
abbrev sInt : Stmt := topS 4
abbrev sNums : Stmt := topS 5
abbrev sReq : Stmt := topS 6
abbrev sSplit : Stmt := topS 7
abbrev sBlocks : Stmt := topS 8
abbrev sDrum : Stmt := topS 10
abbrev sSpin : Stmt := topS 11
abbrev sNumbers : Stmt := topS 12
abbrev sLBlocks : Stmt := topS 13
abbrev sRight : Stmt := topS 14
abbrev sLaw : Stmt := topS 15

/-- the built-in names that stay built in -/
structure Txt (mg : Str → Option Value) : Prop where
  isi : mg "isinstance" = none
  int : mg "int" = none
  bool : mg "bool" = none
  list : mg "list" = none
  all : mg "all" = none
  len : mg "len" = none
  set : mg "set" = none
  max : mg "max" = none
  min : mg "min" = none
  range : mg "range" = none
  enum : mg "enumerate" = none
  repr : mg "repr" = none

theorem scInt : FnScope ["value"] ["value"] (defScope sInt) := ⟨rfl, rfl, rfl, by decide +kernel, rfl, by decide +kernel, by decide +kernel⟩
theorem scNums : FnScope ["value", "number"] ["value"] (defScope sNums) := ⟨rfl, rfl, rfl, by decide +kernel, rfl, by decide +kernel, by decide +kernel⟩
theorem scReq : FnScope ["value"] ["value"] (defScope sReq) := ⟨rfl, rfl, rfl, by decide +kernel, rfl, by decide +kernel, by decide +kernel⟩

section
variable {P : Program} {w : World} {K : PySem.W.Frag} {mg : Str → Option Value} {base : Heap}

theorem kit_ii : PySem.W.kitOne K (.type "int") (.type "int") = some true := kit_ty (by decide +kernel)
theorem kit_ib : PySem.W.kitOne K (.type "int") (.type "bool") = some false := kit_ty (by decide +kernel)
theorem kit_ll : PySem.W.kitOne K (.type "list") (.type "list") = some true := kit_ty (by decide +kernel)

/-- an int is an integer -/
def spInt : Sp := fun vs H Q _ => ∃ i : Int, vs = [.int i] ∧ Q (.bl true) H
theorem ok_int {f : Addr} {fd : FuncData} {k : Nat} (F : Fun K "is_integer" "is_integer" sInt f fd) (T : Txt mg) : FnOk P w K mg base CX0 (k + 1) f fd ["value"] spInt := by
  refine F.ok scInt (fun vs H Q E h => ?_) (fun cdv A outer s H vs Q E hr h => ?_)
  · obtain ⟨i, rfl, _⟩ := h
    rfl
  · obtain ⟨i, rfl, q⟩ := h
    refine ⟨_, pss_one (ps_ret (pe_and
      (pe_callB call_isi (by rfl) T.isi (by decide +kernel) (pa_cons (pv 0) (pa_cons (pe_bltn (by rfl) T.int (by decide +kernel) (v := .ty "int") rfl) pa_nil)))
      (pe_one (pe_not (pe_callB call_isi (by rfl) T.isi (by decide +kernel) (pa_cons (pv 0) (pa_cons (pe_bltn (by rfl) T.bool (by decide +kernel) (v := .ty "bool") rfl) pa_nil))))))), ?_⟩
    refine ⟨.int i, rfl, .int i, .ty "int", .type "int", .type "int", true, rfl, .ty _, .base (.int i), kit_ii, true, rfl, iteT ?_⟩
    exact ⟨.int i, rfl, .int i, .ty "bool", .type "int", .type "bool", false, rfl, .ty _, .base (.int i), kit_ib, false, rfl, q⟩

/-- a list of different ints is a list of numbers -/
def spNums : Sp := fun vs H Q _ => ∃ (a : Addr) (ns : List Int), vs = [.ref a] ∧ H a = some (.lst (ns.map V.int)) ∧ ns.Nodup ∧ ns.length ≤ 4000 ∧ ∀ H', Same H H' → Q (.bl true) H'
theorem ok_nums {f fI : Addr} {fd fdI : FuncData} {k : Nat} (F : Fun K "is_numbers" "is_numbers" sNums f fd) (T : Txt mg)
    (FI : Fun K "is_integer" "is_integer" sInt fI fdI) (gI : mg "is_integer" = some (.ref fI)) (bI : Binds K fdI ["value"] []) : FnOk P w K mg base CX0 (k + 2) f fd ["value"] spNums := by
  have GI : FnOk P w K mg base CX0 (k + 1) fI fdI ["value"] spInt := ok_int FI T
  refine F.ok scNums (fun vs H Q E h => ?_) (fun cdv A outer s H vs Q E hr h => ?_)
  · obtain ⟨a, ns, rfl, _⟩ := h
    rfl
  · obtain ⟨a, ns, rfl, hS, nd, hl, q⟩ := h
    refine ⟨_, pss_cons (ps_if (pt_not (pt_val (pe_callB call_isi (by rfl) T.isi (by decide +kernel) (pa_cons (pv 0) (pa_cons (pe_bltn (by rfl) T.list (by decide +kernel) (v := .ty "list") rfl) pa_nil))))) (pss_one (ps_ret pe_bl)) pss_nil)
      (pss_cons (ps_if (pt_not (pt_val (pe_callB (cr_all rfl) (by rfl) T.all (by decide +kernel) (pa_cons
          (pe_lc (own := [("number", 1)]) (g := gName 1) (by rfl) scNums.nd (pi_list (pv 0)) (blkOk_by (own := [("number", 1)]) (N := ["value", "number"]) (sc := defScope sNums) (by decide +kernel))
            (fun _ _ _ _ _ => pg_name (i := 1) scNums.nd rfl (Or.inl rfl)) (fun _ _ _ _ _ => pts_nil)
            (fun _ _ _ _ _ => pe_call GI hr (by rfl) gI FI.kp bI .nil pass0 (pa_cons (pv 1) pa_nil))) pa_nil)))) (pss_one (ps_ret pe_bl)) pss_nil)
      (pss_one (ps_ret (pe_cmpR op_eq (RZ.pe_lenSetI (by rfl) T.len (by rfl) T.set (pv 0)) (pe_callB call_len_seq (by rfl) T.len PySem.boot_len (pa_cons (pv 0) pa_nil)) (nomark _))))), ?_⟩
    refine ⟨.ref a, rfl, .ref a, .ty "list", .type "list", .type "list", true, rfl, .ty _, .base (.lst hS), kit_ll, true, rfl, iteF ?_⟩
    refine ⟨.ref a, rfl, a, rfl, ⟨_, SqL.of hS⟩, fun D nD => ?_⟩
    have na : a ≠ D := ne_of_none hS nD
    refine lc_list (K := K) (a := a) (xs := ns.map V.int) (fun i H' => Same H H' ∧ H' D = some (.lst ((List.replicate i true).map V.bl))) ?_ ?_ ?_ ?_
    · refine ⟨fun b o e => ?_, upd_same⟩
      rw [upd_ne (ne_of_none e nD)]; exact e
    · intro i H' _ hP
      exact SqL.of (hP.1 _ _ hS)
    · intro i x H' hx hP
      refine ⟨rfl, ?_⟩
      rw [List.getElem?_map] at hx
      obtain ⟨n, _, rfl⟩ := Option.map_eq_some_iff.mp hx
      have hi : i < ns.length := by
        rcases Nat.lt_or_ge i ns.length with z | z
        · exact z
        · rw [List.getElem?_eq_none z] at hx; cases hx
      refine iteT (B := Same H H' ∧ H' D = some (HO.lst (List.map V.bl (List.replicate (i + 1) true)))) ?_
      refine ⟨.int n, rfl, n, rfl, _, hP.2, ?_, ?_, ?_⟩
      · rw [List.length_map, List.length_replicate]
        unfold sizeLine; omega
      · intro b o e
        rw [upd_ne (ne_of_none e nD)]
        exact hP.1 b o e
      · rw [upd_same, List.replicate_succ', List.map_append]
        rfl
    · intro H' hP
      refine ⟨D, _, rfl, SqL.of hP.2, ?_⟩
      have ea : (List.replicate (ns.map V.int).length true).all id = true := by simp
      rw [ea]
      refine ⟨true, rfl, iteF ?_⟩
      have hS' : H' a = some (.lst (ns.map V.int)) := hP.1 _ _ hS
      refine ⟨.ref a, rfl, a, ns, rfl, SqL.of hS', nd, hl, .ref a, rfl, a, ns.map V.int, rfl, Or.inl (SqL.of hS'), rfl, ?_⟩
      have e2 : decide (V.int (ns.length : Nat) = V.int ((ns.map V.int).length : Nat)) = true := by
        rw [List.length_map]
        exact decide_eq_true rfl
      rw [e2]
      exact q H' hP.1

def spReq : Sp := fun vs H Q _ => ∃ (a : Addr) (ns : List Int), vs = [.ref a] ∧ H a = some (.lst (ns.map V.int)) ∧ ns.Nodup ∧ ns.length ≤ 4000 ∧ ∀ H', Same H H' → Q .non H'
theorem ok_req {f fN : Addr} {fd fdN : FuncData} {k : Nat} (F : Fun K "require_numbers" "require_numbers" sReq f fd)
    (GN : FnOk P w K mg base CX0 k fN fdN ["value"] spNums) (gN : mg "is_numbers" = some (.ref fN)) (kN : PySem.W.keepIn K (.ref fN) = true) (bN : Binds K fdN ["value"] []) :
    FnOk P w K mg base CX0 (k + 1) f fd ["value"] spReq := by
  refine F.ok scReq (fun vs H Q E h => ?_) (fun cdv A outer s H vs Q E hr h => ?_)
  · obtain ⟨a, ns, rfl, _⟩ := h
    rfl
  · obtain ⟨a, ns, rfl, hS, nd, hl, q⟩ := h
    refine ⟨_, pss_one (ps_if (pt_not (pt_val (pe_call GN hr (by rfl) gN kN bN .nil pass0 (pa_cons (pv 0) pa_nil)))) (pss_one ps_never) pss_nil), ?_⟩
    exact ⟨.ref a, rfl, a, ns, rfl, hS, nd, hl, fun H' sm => ⟨true, rfl, iteF (q H' sm)⟩⟩
end
end My
namespace My
open PySem PySem.Spec PyProof.Rows L2
theorem scSplit : FnScope ["numbers", "blocks", "number"] ["numbers"] (defScope sSplit) := ⟨rfl, rfl, rfl, by decide +kernel, rfl, by decide +kernel, by decide +kernel⟩
theorem scBlocks : FnScope ["numbers"] ["numbers"] (defScope sBlocks) := ⟨rfl, rfl, rfl, by decide +kernel, rfl, by decide +kernel, by decide +kernel⟩

/-- the rows of ints as values -/
abbrev vv (bs : List (List Int)) : List (List V) := bs.map fun b => b.map V.int
theorem vv_len (bs : List (List Int)) : (vv bs).length = bs.length := List.length_map ..
/-- new rows at new addresses, the list of them at p -/
structure NewRows (H H' : Hp) (p : Addr) (qs : List Addr) (bs : List (List V)) : Prop where
  same : Same H H'
  fresh : ∀ q ∈ qs, H q = none
  freshp : H p = none
  top : H' p = some (.lst (qs.map V.ref))
  off : p ∉ qs
  rows : Rws H' qs bs
theorem atI_last1 {qs : List Addr} {q : Addr} : atI ((qs ++ [q]).map V.ref) (-1) = some (.ref q) := by
  rw [List.map_append]
  exact atI_last _ _

section
variable {P : Program} {w : World} {K : PySem.W.Frag} {mg : Str → Option Value} {base : Heap}
def spSplit : Sp := fun vs H Q _ => ∃ (a : Addr) (ns : List Int), vs = [.ref a] ∧ H a = some (.lst (ns.map V.int)) ∧ ns.length ≤ 4000 ∧
  ∀ H' p qs, NewRows H H' p qs (vv (cut ns)) → Q (.ref p) H'
theorem ok_split {f : Addr} {fd : FuncData} {k : Nat} (F : Fun K "split_blocks" "split_blocks" sSplit f fd) (T : Txt mg) : FnOk P w K mg base CX0 (k + 1) f fd ["numbers"] spSplit := by
  refine F.ok scSplit (fun vs H Q E h => ?_) (fun cdv A outer s H vs Q E hr h => ?_)
  · obtain ⟨a, ns, rfl, _⟩ := h
    rfl
  · obtain ⟨a, ns, rfl, hS, hl, q⟩ := h
    refine ⟨_, pss_cons (ps_set (i := 1) scSplit.nd rfl (.inl rfl) (pe_lst pa_nil))
      (pss_cons (ps_for PassesOwn.never rfl (pi_list (pv 0)) (pg_name (i := 2) scSplit.nd rfl (.inl rfl))
        (pss_one (ps_if (PW.pt (pw_or (pt_cmpR op_eq (pe_callB call_len_seq (by rfl) T.len PySem.boot_len (pa_cons (pv 1) pa_nil)) pe_int (nomark _))
            (pw_or1 (pt_cmpR op_gt (pv 2) (pe_ix ix_list (pe_ix ix_list (pv 1) (pe_un un_neg pe_int) (fun _ _ => rfl)) pe_int (fun _ _ => rfl)) (nomark _)))))
          (pss_one (ps_expr (pe_bm PySem.F.plainAttrs_list PySem.F.slot_list_append PySem.F.type_list_append mt_append (pv 1) (pa_cons (pe_lst (pa_cons (pv 2) pa_nil)) pa_nil))))
          (pss_one (ps_expr (pe_bm PySem.F.plainAttrs_list PySem.F.slot_list_append PySem.F.type_list_append mt_append (pe_ix ix_list (pv 1) (pe_un un_neg pe_int) (fun _ _ => rfl)) (pa_cons (pv 2) pa_nil)))))))
      (pss_one (ps_ret (pv 1)))), ?_⟩
    refine ⟨Nat.zero_le _, fun p np => ?_⟩
    have nap : a ≠ p := ne_of_none hS np
    refine ⟨.ref a, rfl, a, rfl, ⟨_, SqL.of (by rw [upd_ne nap]; exact hS)⟩, for_list (K := K) (a := a) (xs := ns.map V.int)
      (fun i σ H' => ∃ y qs, σ = [some (.ref a), some (.ref p), y] ∧ NewRows H H' p qs (vv (cut (ns.take i)))) ⟨none, [], rfl, sameN np, by simp, np, upd_same, by simp, Rws.nil⟩ ?_ ?_ ?_⟩
    · rintro i σ H' _ ⟨y, qs, _, N⟩
      exact SqL.of (N.same _ _ hS)
    · rintro i x σ H' hx ⟨y, qs, rfl, N⟩
      rw [List.getElem?_map] at hx
      obtain ⟨n, hn, rfl⟩ := Option.map_eq_some_iff.mp hx
      have hi : i < ns.length := (List.getElem?_eq_some_iff.mp hn).1
      have G := good_cut (ns.take i)
      have hlen : qs.length ≤ 4000 := by
        have h1 := N.rows.len
        rw [vv_len] at h1
        have h2 := G.len
        rw [List.length_take] at h2
        omega
      refine ⟨.ref p, rfl, p, _, rfl, .inl (SqL.of N.top), rfl, _, rfl, ?_⟩
      rcases G.last with e | ⟨ini, m, r, e, hm, hmax⟩
      · -- no block yet
        have hq : qs = [] := List.eq_nil_of_length_eq_zero (by rw [N.rows.len, vv_len, e]; rfl)
        subst hq
        refine iteT (iteT ?_)
        refine ⟨.ref p, rfl, .inl ⟨rfl, _, SqL.of N.top⟩, (.int n), rfl, (show 1 ≤ sizeLine by decide), fun q nq => ?_⟩
        have npq : p ≠ q := ne_of_none N.top nq
        refine ⟨p, _, _, rfl, rfl, by rw [upd_ne npq]; exact N.top, by decide, ?_⟩
        refine ⟨_, [q], rfl, same0 (same0 N.same (N.same.free nq)) N.freshp, ?_, N.freshp, upd_same, ?_, ?_⟩
        · intro z hz
          have e2 : z = q := by simpa using hz
          rw [e2]; exact N.same.free nq
        · intro z
          exact npq (by simpa using z)
        · rw [cut_take hn, e, put_nil]
          have R := (N.rows.push (b := [V.int n]) nq).off (o := .lst ([] ++ [V.ref q])) (p := p) (by intro z; exact npq (by simpa using z))
          rw [e] at R
          exact R
      · -- behind the last block or a new one
        have hv : vv (cut (ns.take i)) = vv ini ++ [(m :: r).map V.int] := by rw [e]; exact List.map_append ..
        have hql : qs.length = (vv ini).length + 1 := by rw [N.rows.len, hv, List.length_append]; rfl
        obtain ⟨qi, ql, hqe⟩ : ∃ qi ql, qs = qi ++ [ql] := by
          rcases List.eq_nil_or_concat qs with z | ⟨a1, b1, z⟩
          · rw [z] at hql; cases hql
          · exact ⟨a1, b1, by rw [z, List.concat_eq_append]⟩
        subst hqe
        have hqi : qi.length = (vv ini).length := by
          rw [List.length_append] at hql
          have : [ql].length = 1 := rfl
          omega
        have at1 : (qi ++ [ql])[qi.length]? = some ql := by simp
        have at2 : (vv (cut (ns.take i)))[qi.length]? = some ((m :: r).map V.int) := by rw [hv, hqi]; simp
        have hlast : H' ql = some (.lst ((m :: r).map V.int)) := N.rows.get _ _ _ at1 at2
        have npl : p ≠ ql := fun z => N.off (by rw [z]; simp)
        have e0 : decide (V.int ((qi ++ [ql]).map V.ref).length = V.int 0) = false := by
          apply decide_eq_false
          intro z
          have z2 := V.int.inj z
          rw [List.length_map, List.length_append] at z2
          have : [ql].length = 1 := rfl
          omega
        rw [e0]
        refine iteF ?_
        refine ⟨.int n, rfl, .ref p, rfl, 1, rfl, p, _, _, .ref ql, rfl, rfl, SqL.of N.top, atI_last1, ql, _, _, .int m, rfl, rfl, SqL.of hlast, atI_nat (j := 0) rfl, n, m, rfl, rfl, _, rfl, ?_⟩
        by_cases hlt : m < n
        · have e1 : decide (n > m) = true := decide_eq_true hlt
          rw [e1]
          refine iteT ?_
          refine ⟨.ref p, rfl, .inl ⟨rfl, _, SqL.of N.top⟩, (.int n), rfl, (show 1 ≤ sizeLine by decide), fun q nq => ?_⟩
          have npq : p ≠ q := ne_of_none N.top nq
          have nqs : q ∉ qi ++ [ql] := fun z => N.rows.there z nq
          refine ⟨p, _, _, rfl, rfl, by rw [upd_ne npq]; exact N.top, ?_, ?_⟩
          · rw [List.length_map]; unfold sizeLine; omega
          refine ⟨_, qi ++ [ql] ++ [q], rfl, same0 (same0 N.same (N.same.free nq)) N.freshp, ?_, N.freshp, ?_, ?_, ?_⟩
          · intro z hz
            rcases List.mem_append.mp hz with y | y
            · exact N.fresh z y
            · have e2 : z = q := by simpa using y
              rw [e2]; exact N.same.free nq
          · rw [upd_same, List.map_append (l₁ := qi ++ [ql])]
            rfl
          · intro z
            rcases List.mem_append.mp z with y | y
            · exact N.off y
            · exact npq (by simpa using y)
          · have hput : cut (ns.take (i + 1)) = (ini ++ [m :: r]) ++ [[n]] := by
              rw [cut_take hn, e, put_snoc]
              exact if_pos hlt
            rw [hput]
            have R := (N.rows.push (b := [V.int n]) nq).off (o := .lst ((qi ++ [ql]).map V.ref ++ [V.ref q])) (p := p) (by
              intro z
              rcases List.mem_append.mp z with y | y
              · exact N.off y
              · exact npq (by simpa using y))
            rw [e] at R
            have ev : vv (ini ++ [m :: r] ++ [[n]]) = vv (ini ++ [m :: r]) ++ [[V.int n]] := List.map_append ..
            rw [ev]
            exact R
        · have e1 : decide (n > m) = false := decide_eq_false hlt
          rw [e1]
          refine iteF ?_
          refine ⟨.ref p, rfl, 1, rfl, p, _, _, .ref ql, rfl, rfl, SqL.of N.top, atI_last1, .inl ⟨rfl, _, SqL.of hlast⟩, .int n, rfl, ql, _, _, rfl, rfl, hlast, ?_, ?_⟩
          · rw [List.length_map]
            have h1 := G.rowlen (b := m :: r) (by rw [e]; simp)
            rw [List.length_take] at h1
            unfold sizeLine; omega
          refine ⟨_, qi ++ [ql], rfl, same0 N.same (N.fresh ql (by simp)), N.fresh, N.freshp, ?_, N.off, ?_⟩
          · rw [upd_ne npl]; exact N.top
          · have hput : cut (ns.take (i + 1)) = ini ++ [(m :: r) ++ [n]] := by
              rw [cut_take hn, e, put_snoc]
              exact if_neg hlt
            rw [hput]
            have R := N.rows.put (b := (m :: r).map V.int ++ [V.int n]) at1
            rw [hv, hqi, List.set_append_right _ _ (Nat.le_refl _), Nat.sub_self] at R
            have ev : vv (ini ++ [(m :: r) ++ [n]]) = vv ini ++ [(m :: r).map V.int ++ [V.int n]] := by
              show (ini ++ [(m :: r) ++ [n]]).map _ = _
              rw [List.map_append, List.map_singleton, List.map_append]
              rfl
            rw [ev]
            exact R
    · rintro σ H' ⟨y, qs, rfl, N⟩
      rw [List.length_map, List.take_length] at N
      exact ⟨.ref p, rfl, q H' p qs N⟩

def spBlocks : Sp := fun vs H Q _ => ∃ (a : Addr) (ns : List Int), vs = [.ref a] ∧ H a = some (.lst (ns.map V.int)) ∧ ns.Nodup ∧ ns.length ≤ 4000 ∧
  ∀ H' p qs, NewRows H H' p qs (vv (cut ns)) → Q (.ref p) H'
theorem ok_blocks {f fR fS : Addr} {fd fdR fdS : FuncData} {k : Nat} (F : Fun K "blocks_of" "blocks_of" sBlocks f fd)
    (GR : FnOk P w K mg base CX0 k fR fdR ["value"] spReq) (gR : mg "require_numbers" = some (.ref fR)) (kR : PySem.W.keepIn K (.ref fR) = true) (bR : Binds K fdR ["value"] [])
    (GS : FnOk P w K mg base CX0 k fS fdS ["numbers"] spSplit) (gS : mg "split_blocks" = some (.ref fS)) (kS : PySem.W.keepIn K (.ref fS) = true) (bS : Binds K fdS ["numbers"] []) :
    FnOk P w K mg base CX0 (k + 1) f fd ["numbers"] spBlocks := by
  refine F.ok scBlocks (fun vs H Q E h => ?_) (fun cdv A outer s H vs Q E hr h => ?_)
  · obtain ⟨a, ns, rfl, _⟩ := h
    rfl
  · obtain ⟨a, ns, rfl, hS, nd, hl, q⟩ := h
    refine ⟨_, pss_cons (ps_expr (pe_call GR hr (by rfl) gR kR bR .nil pass0 (pa_cons (pv 0) pa_nil))) (pss_one (ps_ret (pe_call GS hr (by rfl) gS kS bS .nil pass0 (pa_cons (pv 0) pa_nil)))), ?_⟩
    refine ⟨.ref a, rfl, a, ns, rfl, hS, nd, hl, fun H1 sm => ?_⟩
    refine ⟨.ref a, rfl, a, ns, rfl, sm _ _ hS, hl, fun H' p qs N => ?_⟩
    exact q H' p qs ⟨sm.trans N.same, fun z hz => sm.free (N.fresh z hz), sm.free N.freshp, N.top, N.off, N.rows⟩
end
end My
namespace My
open PySem PySem.Spec PyProof.Rows L2
theorem scDrum : FnScope ["script", "k", "cell"] ["script", "k"] (defScope sDrum) := ⟨rfl, rfl, rfl, by decide +kernel, rfl, by decide +kernel, by decide +kernel⟩
theorem scSpin : FnScope ["drum", "size", "found", "mixed"] ["drum", "size"] (defScope sSpin) := ⟨rfl, rfl, rfl, by decide +kernel, rfl, by decide +kernel, by decide +kernel⟩

/-- a drum's three numbers, the third at most n -/
structure Drm (a b c : Int) (n : Nat) : Prop where
  a0 : 0 ≤ a
  b0 : 0 ≤ b
  b1 : b < 2 ^ 200
  c0 : 0 ≤ c
  c1 : c ≤ n
abbrev drl (a b c : Int) : HO := .lst [.int a, .int b, .int c]
theorem fmod_lo {x m : Int} (h : 0 < m) : 0 ≤ x.fmod m := Int.fmod_nonneg_of_pos x h
theorem fmod_hi {x m : Int} (h : 0 < m) : x.fmod m < m := Int.fmod_lt_of_pos x h
theorem abs_lt {x : Int} {b : Nat} (h0 : 0 ≤ x) (h : x < (2 ^ b : Nat)) : x.natAbs < 2 ^ b := by omega

theorem p44 : (0 : Int) < 10 ^ (44 : Int).toNat + 31 := by decide
theorem p42 : (0 : Int) < 10 ^ (42 : Int).toNat + 63 := by decide
theorem n44 : (10 : Int) ^ (44 : Int).toNat + 31 ≠ 0 := by decide
theorem n42 : (10 : Int) ^ (42 : Int).toNat + 63 ≠ 0 := by decide
section
variable {P : Program} {w : World} {K : PySem.W.Frag} {mg : Str → Option Value} {base : Heap}
def spDrum (K : PySem.W.Frag) : Sp := fun vs H Q _ => ∃ (a : Addr) (ns : List Int) (j : Nat), vs = [.ref a, .int j] ∧ SqL K H a (ns.map V.int) ∧ j ≤ 100 ∧
  ∀ D x y, H D = none → Drm x y 0 0 → Q (.ref D) (upd H D (drl x y 0))
theorem ok_drum {f : Addr} {fd : FuncData} {k : Nat} (F : Fun K "_law_drum" "_law_drum" sDrum f fd) (T : Txt mg) : FnOk P w K mg base CX0 (k + 1) f fd ["script", "k"] (spDrum K) := by
  refine F.ok scDrum (fun vs H Q E h => ?_) (fun cdv A outer s H vs Q E hr h => ?_)
  · obtain ⟨a, ns, j, rfl, _⟩ := h
    rfl
  · obtain ⟨a, ns, j, rfl, hS, hj, q⟩ := h
    refine ⟨_, pss_cons (ps_set (i := 2) scDrum.nd rfl (.inl rfl) pe_int)
      (pss_cons (ps_if (pt_cmpR op_lt (pv 1) (pe_callB call_len_seq (by rfl) T.len PySem.boot_len (pa_cons (pv 0) pa_nil)) (nomark _))
        (pss_one (ps_set (i := 2) scDrum.nd rfl (.inl rfl) (pe_ix ix_list (pv 0) (pv 1) (fun _ _ => rfl)))) pss_nil)
      (pss_one (ps_ret (pe_lst (pa_cons (pe_callB (call_max2 rfl) (by rfl) T.max (by decide +kernel) (pa_cons pe_int (pa_cons (pe_op op_sub (pv 2) (pe_op op_pow pe_int pe_int)) pa_nil)))
        (pa_cons (pe_op op_add (pe_op op_add (pe_op op_mulW (pe_op op_modN (pv 2) (pe_op op_add (pe_op op_pow pe_int pe_int) pe_int)) pe_int) (pe_op op_mul pe_int (pv 1))) pe_int)
        (pa_cons pe_int pa_nil))))))), ?_⟩
    have fin : ∀ cell : Int, ∀ D : Addr, H D = none → Q (.ref D) (upd H D (drl (if cell - 10 ^ (18 : Int).toNat > 0 then cell - 10 ^ (18 : Int).toNat else 0)
        ((cell.fmod (10 ^ (44 : Int).toNat + 31)) * 8192 + 29 * (j : Int) + 7) 0)) := by
      intro cell D nD
      have e44 : (10 : Int) ^ (44 : Int).toNat = 10 ^ 44 := rfl
      have l1 := fmod_lo (x := cell) (m := 10 ^ (44 : Int).toNat + 31) (by decide)
      have l2 := fmod_hi (x := cell) (m := 10 ^ (44 : Int).toNat + 31) (by decide)
      rw [e44] at l1 l2 ⊢
      refine q D _ _ nD ⟨?_, ?_, ?_, by decide, by decide⟩
      · split <;> omega
      · omega
      · omega
    refine ⟨.int j, rfl, .ref a, rfl, a, _, rfl, .inl hS, _, _, rfl, rfl, _, rfl, ite2 (fun e => ?_) (fun e => ?_)⟩
    · have hlt : j < ns.length := by
        have z := of_decide_eq_true e
        rw [List.length_map] at z
        omega
      refine ⟨.ref a, rfl, .int j, rfl, a, _, _, .int ns[j], rfl, rfl, hS, atI_nat (j := j) (by rw [List.getElem?_map, List.getElem?_eq_getElem hlt]; rfl), ?_⟩
      refine ⟨_, rfl, 10, 18, rfl, rfl, ⟨by decide, by decide, by decide⟩, _, _, rfl, rfl, _, _, rfl, ?_⟩
      refine ⟨_, rfl, 10, 44, rfl, rfl, ⟨by decide, by decide, by decide⟩, _, _, rfl, rfl, _, _, rfl, rfl, n44, ?_⟩
      refine ⟨_, _, rfl, rfl, wide_mul (a := 150) (b := 14) (abs_lt (fmod_lo p44) (Int.lt_trans (fmod_hi p44) (by decide))) (by decide) (by decide) (by decide) (by decide), ?_⟩
      refine ⟨.int j, rfl, _, _, rfl, rfl, .inl ⟨by decide, by decide⟩, _, _, rfl, rfl, _, _, rfl, rfl, (show 3 ≤ sizeLine by decide), fun D nD => ?_⟩
      exact fin _ D nD
    · refine ⟨_, rfl, 10, 18, rfl, rfl, ⟨by decide, by decide, by decide⟩, _, _, rfl, rfl, _, _, rfl, ?_⟩
      refine ⟨_, rfl, 10, 44, rfl, rfl, ⟨by decide, by decide, by decide⟩, _, _, rfl, rfl, _, _, rfl, rfl, n44, ?_⟩
      refine ⟨_, _, rfl, rfl, wide_mul (a := 150) (b := 14) (abs_lt (fmod_lo p44) (Int.lt_trans (fmod_hi p44) (by decide))) (by decide) (by decide) (by decide) (by decide), ?_⟩
      refine ⟨.int j, rfl, _, _, rfl, rfl, .inl ⟨by decide, by decide⟩, _, _, rfl, rfl, _, _, rfl, rfl, (show 3 ≤ sizeLine by decide), fun D nD => ?_⟩
      exact fin _ D nD

def spSpin : Sp := fun vs H Q _ => ∃ (D : Addr) (z a b c : Int) (n : Nat), vs = [.ref D, .int z] ∧ H D = some (drl a b c) ∧ Drm a b c n ∧ n ≤ 1000000 ∧ 1 ≤ z ∧ z < 2 ^ 100 ∧
  ∀ v a' b' c', 0 ≤ v → v < z → Drm a' b' c' (n + 1) → Q (.int v) (upd H D (drl a' b' c'))
theorem ok_spin {f : Addr} {fd : FuncData} {k : Nat} (F : Fun K "_law_spin" "_law_spin" sSpin f fd) : FnOk P w K mg base CX0 (k + 1) f fd ["drum", "size"] spSpin := by
  refine F.ok scSpin (fun vs H Q E h => ?_) (fun cdv A outer s H vs Q E hr h => ?_)
  · obtain ⟨D, z, a, b, c, n, rfl, _⟩ := h
    rfl
  · obtain ⟨D, z, a, b, c, n, rfl, hD, hd, hn, hz, hz2, q⟩ := h
    refine ⟨_, pss_cons (ps_if (pt_cmpR op_gt (pe_ix ix_list (pv 0) pe_int (fun _ _ => rfl)) pe_int (nomark _))
        (pss_cons (ps_set (i := 2) scSpin.nd rfl (.inl rfl) (pe_op op_modN (pe_ix ix_list (pv 0) pe_int (fun _ _ => rfl)) (pv 1)))
        (pss_cons (ps_asg (pe_op op_fdivW (pe_ix ix_list (pv 0) pe_int (fun _ _ => rfl)) (pv 1)) (pg_sub (pv 0) pe_int set_list))
        (pss_one (ps_ret (pv 2))))) pss_nil)
      (pss_cons (ps_asg (pe_op op_add (pe_ix ix_list (pv 0) pe_int (fun _ _ => rfl)) pe_int) (pg_sub (pv 0) pe_int set_list))
      (pss_cons (ps_set (i := 3) scSpin.nd rfl (.inl rfl) (pe_op op_modN (pe_op op_pw (pe_op op_add (pe_ix ix_list (pv 0) pe_int (fun _ _ => rfl)) (pe_op op_mul pe_int (pe_ix ix_list (pv 0) pe_int (fun _ _ => rfl)))) pe_int) (pe_op op_add (pe_op op_pow pe_int pe_int) pe_int)))
      (pss_cons (ps_set (i := 3) scSpin.nd rfl (.inl rfl) (pe_op op_modN (pe_op op_add (pe_op op_mulW (pv 3) (pv 3)) (pe_op op_mul pe_int (pe_ix ix_list (pv 0) pe_int (fun _ _ => rfl)))) (pe_op op_add (pe_op op_pow pe_int pe_int) pe_int)))
      (pss_one (ps_ret (pe_op op_modN (pe_op op_fdivN (pv 3) pe_int) (pv 1))))))), ?_⟩
    have hL : SqL K H D [.int a, .int b, .int c] := SqL.of hD
    refine ⟨.ref D, rfl, D, _, 0, .int a, rfl, rfl, hL, atI_nat (j := 0) rfl, _, _, rfl, rfl, _, rfl, ite2 (fun e => ?_) (fun e => ?_)⟩
    · refine ⟨.ref D, rfl, D, _, 0, .int a, rfl, rfl, hL, atI_nat (j := 0) rfl, .int z, rfl, _, _, rfl, rfl, by omega, ?_⟩
      refine ⟨.ref D, rfl, D, _, 0, .int a, rfl, rfl, hL, atI_nat (j := 0) rfl, .int z, rfl, _, _, rfl, rfl, wide_div (b := 100) (by omega) (abs_lt (by omega) hz2) (by decide) (by decide), ?_⟩
      refine ⟨.ref D, rfl, D, _, 0, 0, rfl, rfl, hD, rfl, ?_⟩
      refine ⟨_, rfl, ?_⟩
      refine q _ _ _ _ (fmod_lo (by omega)) (fmod_hi (by omega)) ⟨Int.ediv_nonneg hd.a0 (by omega), hd.b0, hd.b1, hd.c0, ?_⟩
      have := hd.c1
      omega
    · refine ⟨.ref D, rfl, D, _, 2, .int c, rfl, rfl, hL, atI_nat (j := 2) rfl, _, _, rfl, rfl, .ref D, rfl, D, _, 2, 2, rfl, rfl, hD, rfl, ?_⟩
      have hL2 : SqL K (upd H D (drl a b (c + 1))) D [.int a, .int b, .int (c + 1)] := SqL.of upd_same
      have hb := hd.b0
      have hb1 := hd.b1
      have hc := hd.c0
      have hc1 := hd.c1
      refine ⟨.ref D, rfl, D, _, 1, .int b, rfl, rfl, hL2, atI_nat (j := 1) rfl, .ref D, rfl, D, _, 2, .int (c + 1), rfl, rfl, hL2, atI_nat (j := 2) rfl, _, _, rfl, rfl, .inl ⟨by decide, by decide⟩, _, _, rfl, rfl, _, _, rfl, rfl,
        pw_ok (b := 250) (by decide) (by decide) (abs_lt (by omega) (by omega)) (by decide) (by decide), ?_⟩
      refine ⟨10, 42, rfl, rfl, ⟨by decide, by decide, by decide⟩, _, _, rfl, rfl, _, _, rfl, rfl, n42, ?_⟩
      obtain ⟨m1, hm⟩ : ∃ m1, m1 = Int.fmod ((b + 1190494759 * (c + 1)) ^ (3 : Int).toNat) (10 ^ (42 : Int).toNat + 63) := ⟨_, rfl⟩
      dsimp only
      rw [← hm]
      have m0 : 0 ≤ m1 := by rw [hm]; exact fmod_lo p42
      have m2 : m1 < (2 ^ 150 : Nat) := by rw [hm]; exact Int.lt_trans (fmod_hi p42) (by decide)
      refine ⟨_, rfl, _, rfl, _, _, rfl, rfl, wide_mul (a := 150) (b := 150) (abs_lt m0 m2) (abs_lt m0 m2) (by decide) (by decide) (by decide), ?_⟩
      refine ⟨.ref D, rfl, D, _, 2, .int (c + 1), rfl, rfl, hL2, atI_nat (j := 2) rfl, _, _, rfl, rfl, .inl ⟨by decide, by decide⟩, _, _, rfl, rfl, ?_⟩
      refine ⟨10, 44, rfl, rfl, ⟨by decide, by decide, by decide⟩, _, _, rfl, rfl, _, _, rfl, rfl, n44, ?_⟩
      refine ⟨_, rfl, _, _, rfl, rfl, ⟨by decide, by decide⟩, _, rfl, _, _, rfl, rfl, by omega, ?_⟩
      refine q _ _ _ _ (fmod_lo (by omega)) (fmod_hi (by omega)) ⟨hd.a0, hd.b0, hd.b1, by omega, by omega⟩
end
end My
namespace My
open PySem PySem.Spec PyProof.Rows L2
abbrev nN : List Str := ["drum", "many", "gap", "number", "found", "turn", "style", "at"]
theorem scNumbers : FnScope nN ["drum", "many"] (defScope sNumbers) := ⟨rfl, rfl, rfl, by decide +kernel, rfl, by decide +kernel, by decide +kernel⟩
/-- numbers that are not too great -/
def Sm (ns : List Int) : Prop := ∀ x ∈ ns, -(10 ^ 31) ≤ x ∧ x ≤ 10 ^ 31
theorem Sm.perm {a b : List Int} (h : Sm a) (p : b.Perm a) : Sm b := fun x hx => h x (p.mem_iff.mp hx)

/-- the drum D has been turned, new things stand; what stood stands -/
structure DS (H H' : Hp) (D : Addr) (n : Nat) : Prop where
  but : But D H H'
  at0 : H D ≠ none
  dr : ∃ a b c, H' D = some (drl a b c) ∧ Drm a b c n
theorem DS.new {H H' : Hp} {D : Addr} {n : Nat} (S : DS H H' D n) {l : Addr} {o : HO} (e : H' l = none) : DS H (upd H' l o) D n := by
  obtain ⟨a, b, c, h1, h2⟩ := S.dr
  have ne : D ≠ l := ne_of_none h1 e
  refine ⟨S.but.updN ?_, S.at0, a, b, c, by rw [upd_ne ne]; exact h1, h2⟩
  exact S.but.free ne.symm e
theorem DS.fr {H H' : Hp} {D : Addr} {n : Nat} (S : DS H H' D n) {l : Addr} (e : H' l = none) : H l = none := by
  obtain ⟨a, b, c, h1, h2⟩ := S.dr
  exact S.but.free (ne_of_none h1 e).symm e
theorem DS.spin {H H' : Hp} {D : Addr} {n m : Nat} (S : DS H H' D n) {a b c : Int} (d : Drm a b c m) : DS H (upd H' D (drl a b c)) D m :=
  ⟨S.but.updD, S.at0, a, b, c, upd_same, d⟩
theorem DS.write {H H' : Hp} {D : Addr} {n : Nat} (S : DS H H' D n) {l : Addr} {o : HO} (e : H l = none) : DS H (upd H' l o) D n := by
  obtain ⟨a, b, c, h1, h2⟩ := S.dr
  have ne : D ≠ l := fun z => S.at0 (z ▸ e)
  exact ⟨S.but.updN e, S.at0, a, b, c, by rw [upd_ne ne]; exact h1, h2⟩
theorem DS.ne {H H' : Hp} {D : Addr} {n : Nat} (S : DS H H' D n) {l : Addr} (e : H l = none) : l ≠ D := fun z => S.at0 (z ▸ e)

section
variable {P : Program} {w : World} {K : PySem.W.Frag} {mg : Str → Option Value} {base : Heap}
def spNumbers : Sp := fun vs H Q _ => ∃ (D : Addr) (m : Nat) (a b c : Int) (n : Nat), vs = [.ref D, .int m] ∧ m ≤ 200 ∧ H D = some (drl a b c) ∧ Drm a b c n ∧ n ≤ 900000 ∧
  ∀ H' p ns a' b' c', ns.Nodup → ns.length = m → Sm ns → H p = none → But D H H' → H' p = some (.lst (ns.map V.int)) → H' D = some (drl a' b' c') → Drm a' b' c' (n + 3 + 2 * m) → Q (.ref p) H'
def rLen (K : PySem.W.Frag) : List V → Hp → VK → Prop := fun xs H Q => ∃ p ys, xs = [.ref p] ∧ (SqL K H p ys ∨ SqT K H p ys) ∧ Q (.int ys.length) H
abbrev tePop (K : PySem.W.Frag) : TE := tBM K "list" rPopAt (tVar 4) (tCons (tCall spSpin [] E0 (tCons (tVar 0) (tCons (tCB (rLen K) (tCons (tVar 4) tNil)) tNil))) tNil)
theorem Drm.up {a b c : Int} {n m : Nat} (h : Drm a b c n) (l : n ≤ m) : Drm a b c m := ⟨h.a0, h.b0, h.b1, h.c0, by have := h.c1; omega⟩

theorem ok_numbers {f fS : Addr} {fd fdS : FuncData} {k : Nat} (F : Fun K "_law_numbers" "_law_numbers" sNumbers f fd) (T : Txt mg)
    (GS : FnOk P w K mg base CX0 k fS fdS ["drum", "size"] spSpin) (gS : mg "_law_spin" = some (.ref fS)) (kS : PySem.W.keepIn K (.ref fS) = true) (bS : Binds K fdS ["drum", "size"] []) :
    FnOk P w K mg base CX0 (k + 1) f fd ["drum", "many"] spNumbers := by
  refine F.ok scNumbers (fun vs H Q E h => ?_) (fun cdv A outer s H vs Q E hr h => ?_)
  · obtain ⟨D, m, a, b, c, n, rfl, _⟩ := h
    rfl
  · obtain ⟨D, m, a, b, c, n, rfl, hm, hD, hd, hn, q⟩ := h
    refine ⟨_, pss_cons (ps_asg (pe_tup (pa_cons (pe_ix ix_list (pe_lst (pa_cons pe_int (pa_cons pe_int (pa_cons (pe_op op_pow pe_int pe_int) (pa_cons (pe_op op_pow pe_int pe_int) pa_nil)))))
          (pe_call GS hr (by rfl) gS kS bS .nil pass0 (pa_cons (pv 0) (pa_cons pe_int pa_nil))) (fun _ _ => rfl)) (pa_cons pe_int (pa_cons (pe_lst pa_nil) pa_nil))))
        (pg_tup (by rfl) (pgs_cons (pg_name (i := 2) scNumbers.nd rfl (.inl rfl)) (pgs_cons (pg_name (i := 3) scNumbers.nd rfl (.inl rfl)) (pgs_cons (pg_name (i := 4) scNumbers.nd rfl (.inr rfl)) pgs_nil)))))
      (pss_cons (ps_set (i := 3) scNumbers.nd rfl (.inl rfl) (pe_op op_sub (pv 3) (pe_ix ix_list (pe_lst (pa_cons pe_int (pa_cons (pv 1) (pa_cons (pe_op op_fdivN (pe_op op_mul (pv 1) (pv 2)) pe_int) (pa_cons (pe_op op_mul pe_int (pe_op op_pow pe_int pe_int)) pa_nil)))))
          (pe_call GS hr (by rfl) gS kS bS .nil pass0 (pa_cons (pv 0) (pa_cons pe_int pa_nil))) (fun _ _ => rfl))))
      (pss_cons (ps_for PassesOwn.never rfl (pi_range1 (by rfl) T.range (pa_cons (pv 1) pa_nil)) (pg_name (i := 5) scNumbers.nd rfl (.inl rfl))
        (pss_cons (ps_set (i := 3) scNumbers.nd rfl (.inl rfl) (pe_op op_add (pe_op op_add (pv 3) pe_int) (pe_call GS hr (by rfl) gS kS bS .nil pass0 (pa_cons (pv 0) (pa_cons (pv 2) pa_nil)))))
        (pss_one (ps_expr (pe_bm PySem.F.plainAttrs_list PySem.F.slot_list_append PySem.F.type_list_append mt_append (pv 4) (pa_cons (pv 3) pa_nil))))))
      (pss_cons (ps_set (i := 6) scNumbers.nd rfl (.inl rfl) (pe_call GS hr (by rfl) gS kS bS .nil pass0 (pa_cons (pv 0) (pa_cons pe_int pa_nil))))
      (pss_cons (ps_if (pt_cmpR op_eq (pv 6) pe_int (nomark _)) (pss_one (ps_ret (pv 4))) pss_nil)
      (pss_cons (ps_if (pt_cmpR op_eq (pv 6) pe_int (nomark _)) (pss_one (ps_ret (pe_revL (pv 4)))) pss_nil)
      (pss_cons (ps_if (pt_cmpR op_eq (pv 6) pe_int (nomark _))
        (pss_cons (ps_for PassesOwn.never rfl (pi_range1 (by rfl) T.range (pa_cons (pe_op op_fdivN (pv 1) pe_int) pa_nil)) (pg_name (i := 5) scNumbers.nd rfl (.inl rfl))
          (pss_cons (ps_set (i := 7) scNumbers.nd rfl (.inl rfl) (pe_call GS hr (by rfl) gS kS bS .nil pass0 (pa_cons (pv 0) (pa_cons (pe_op op_sub (pv 1) pe_int) pa_nil))))
          (pss_one (ps_asg (pe_revL (pe_slice sl_list (pv 4) (po_some (pv 7)) (po_some (pe_op op_add (pv 7) pe_int)))) (pg_slc (pv 4) (po_some (pv 7)) (po_some (pe_op op_add (pv 7) pe_int)))))))
        (pss_one (ps_ret (pv 4)))) pss_nil)
      (pss_one (ps_ret (pe_lc (te := tePop K) (own := [("turn", 5)]) (g := gName 5) (by rfl) scNumbers.nd (pi_range1 (by rfl) T.range (pa_cons (pv 1) pa_nil)) (blkOk_by (own := [("turn", 5)]) (N := nN) (sc := defScope sNumbers) (by decide +kernel))
            (fun _ _ _ _ _ => pg_name (i := 5) scNumbers.nd rfl (Or.inl rfl)) (fun _ _ _ _ _ => pts_nil)
            (fun _ _ _ _ _ => pe_bm PySem.F.plainAttrs_list PySem.F.slot_list_pop PySem.F.type_list_pop mt_popAt (pv 4)
              (pa_cons (pe_call GS hr (by rfl) gS kS bS .nil pass0 (pa_cons (pv 0) (pa_cons (pe_callB call_len_seq (by rfl) T.len PySem.boot_len (pa_cons (pv 4) pa_nil)) pa_nil))) pa_nil))))))))))), ?_⟩
    have S0 : DS H H D n := ⟨But.refl D H, (by rw [hD]; exact fun z => nomatch z), a, b, c, hD, hd⟩
    refine ⟨10, 9, rfl, rfl, ⟨by decide, by decide, by decide⟩, 10, 27, rfl, rfl, ⟨by decide, by decide, by decide⟩, (show 4 ≤ sizeLine by decide), fun l nl => ?_⟩
    have S1 := S0.new (o := .lst [.int 1, .int 3, .int (10 ^ (9 : Int).toNat), .int (10 ^ (27 : Int).toNat)]) nl
    obtain ⟨a1, b1, c1, D1, d1⟩ := S1.dr
    refine ⟨.ref D, rfl, D, 4, a1, b1, c1, n, rfl, D1, d1, by omega, by decide, by decide, fun v1 a2 b2 c2 g0 g1 d2 => ?_⟩
    have S2 := S1.spin d2
    obtain ⟨g, hg, hg1, hg2⟩ := pick4 1 3 (10 ^ (9 : Int).toNat) (10 ^ (27 : Int).toNat) g0 g1 (fun x => 1 ≤ x ∧ x ≤ 10 ^ 27) (by decide) (by decide) (by decide) (by decide)
    have lD : l ≠ D := S0.ne nl
    refine ⟨l, _, _, _, rfl, rfl, SqL.of (by rw [upd_ne lD, upd_same]), hg, Nat.zero_le _, fun fo nfo => ?_⟩
    have ffo := S2.fr nfo
    have S3 := S2.new (o := .lst []) nfo
    refine ⟨(show 3 ≤ sizeLine by decide), fun tp ntp => ?_⟩
    have S4 := S3.new (o := .tup [.int g, .int 0, .ref fo]) ntp
    have nft : fo ≠ tp := ne_of_none upd_same ntp
    refine ⟨tp, _, rfl, .inl (.inl upd_same), rfl, _, _, rfl, _, _, rfl, _, _, rfl, rfl, ?_⟩
    have F4 : (upd (upd (upd (upd H l (.lst [.int 1, .int 3, .int (10 ^ (9 : Int).toNat), .int (10 ^ (27 : Int).toNat)])) D (drl a2 b2 c2)) fo (.lst [])) tp (.tup [.int g, .int 0, .ref fo])) fo = some (.lst []) := by
      rw [upd_ne nft, upd_same]
    generalize (upd (upd (upd (upd H l (.lst [.int 1, .int 3, .int (10 ^ (9 : Int).toNat), .int (10 ^ (27 : Int).toNat)])) D (drl a2 b2 c2)) fo (.lst [])) tp (.tup [.int g, .int 0, .ref fo])) = H4 at S4 F4 ⊢
    have foD : fo ≠ D := S0.ne ffo
    -- the first number
    refine ⟨.int 0, rfl, .int m, rfl, .int m, rfl, .int g, rfl, _, _, rfl, rfl, .inl ⟨by omega, by omega⟩, _, _, rfl, rfl, ⟨by decide, by decide⟩, 10, 29, rfl, rfl, ⟨by decide, by decide, by decide⟩, _, _, rfl, rfl, .inl ⟨by decide, by decide⟩, (show 4 ≤ sizeLine by decide), fun l2 nl2 => ?_⟩
    have S5 := S4.new (o := .lst [.int 0, .int m, .int (((m : Int) * g).fdiv 2), .int (3 * 10 ^ (29 : Int).toNat)]) nl2
    have F5 : upd H4 l2 (.lst [.int 0, .int m, .int (((m : Int) * g).fdiv 2), .int (3 * 10 ^ (29 : Int).toNat)]) fo = some (.lst []) := by
      rw [upd_ne (ne_of_none F4 nl2)]; exact F4
    have l2D : l2 ≠ D := S0.ne (S4.fr nl2)
    have l2at : upd H4 l2 (.lst [.int 0, .int m, .int (((m : Int) * g).fdiv 2), .int (3 * 10 ^ (29 : Int).toNat)]) l2 = some (.lst [.int 0, .int m, .int (((m : Int) * g).fdiv 2), .int (3 * 10 ^ (29 : Int).toNat)]) := upd_same
    have hmg : (m : Int) * g ≤ 200 * 10 ^ 27 := Int.mul_le_mul (by omega) hg2 (by omega) (by decide)
    have hmg0 : 0 ≤ (m : Int) * g := Int.mul_nonneg (by omega) (by omega)
    have hfd : ((m : Int) * g).fdiv 2 = (m : Int) * g / 2 := Int.fdiv_eq_ediv_of_nonneg _ (by decide)
    have hq0 : 0 ≤ ((m : Int) * g).fdiv 2 := by rw [hfd]; omega
    have hq1 : ((m : Int) * g).fdiv 2 ≤ 3 * 10 ^ 29 := by rw [hfd]; omega
    obtain ⟨a3, b3, c3, D5, d5⟩ := S5.dr
    refine ⟨.ref D, rfl, D, 4, a3, b3, c3, n + 1, rfl, D5, d5, by omega, by decide, by decide, fun v2 a4 b4 c4 g2 g3 d4 => ?_⟩
    have S6 := S5.spin d4
    obtain ⟨s0, hs, hs1, hs2⟩ := pick4 0 m (((m : Int) * g).fdiv 2) (3 * 10 ^ (29 : Int).toNat) g2 g3 (fun x => 0 ≤ x ∧ x ≤ 3 * 10 ^ 29) (by decide) ⟨by omega, by omega⟩ ⟨hq0, hq1⟩ (by decide)
    refine ⟨l2, _, _, _, rfl, rfl, SqL.of (by rw [upd_ne l2D]; exact l2at), hs, _, _, rfl, rfl, ?_⟩
    have F6 : upd (upd H4 l2 (.lst [.int 0, .int m, .int (((m : Int) * g).fdiv 2), .int (3 * 10 ^ (29 : Int).toNat)])) D (drl a4 b4 c4) fo = some (.lst []) := by
      rw [upd_ne foD]; exact F5
    generalize upd (upd H4 l2 (.lst [.int 0, .int m, .int (((m : Int) * g).fdiv 2), .int (3 * 10 ^ (29 : Int).toNat)])) D (drl a4 b4 c4) = H6 at S6 F6 ⊢
    -- the loop that makes them
    refine ⟨.int m, rfl, m, rfl, by omega, by omega, for_range (lo := 0) (n := m)
      (fun i σ H' => ∃ (fs : List Int) (num : Int) (y5 : Option V), σ = [some (.ref D), some (.int m), some (.int g), some (.int num), some (.ref fo), y5, none, none] ∧ DS H H' D (n + 2 + i) ∧ H' fo = some (.lst (fs.map V.int)) ∧ fs.length = i ∧
        fs.Pairwise (· < ·) ∧ (∀ x ∈ fs, x ≤ num ∧ -(3 * 10 ^ 29) ≤ x) ∧ -(3 * 10 ^ 29) ≤ num ∧ num ≤ (i : Int) * 10 ^ 27)
      ⟨[], _, none, rfl, S6, F6, rfl, .nil, (fun x hx => nomatch hx), by omega, by omega⟩ ?_ ?_⟩
    · rintro i σ H' hi ⟨fs, num, y5, rfl, S, Fo, hfl, hpw, hb, hlo, hhi⟩
      obtain ⟨a5, b5, c5, D7, d7⟩ := S.dr
      refine ⟨.int num, rfl, _, _, rfl, rfl, .ref D, rfl, .int g, rfl, D, g, a5, b5, c5, n + 2 + i, rfl, D7, d7, by omega, hg1, by omega, fun v a6 b6 c6 h0 h1 d8 => ?_⟩
      have S' := S.spin d8
      have Fo' : upd H' D (drl a6 b6 c6) fo = some (.lst (fs.map V.int)) := by rw [upd_ne foD]; exact Fo
      refine ⟨_, _, rfl, rfl, .ref fo, rfl, .inl ⟨rfl, _, SqL.of Fo'⟩, _, rfl, fo, _, _, rfl, rfl, Fo', ?_, ?_⟩
      · rw [List.length_map]; unfold sizeLine; omega
      refine ⟨fs ++ [num + 1 + v], _, _, rfl, S'.write ffo, ?_, ?_, ?_, ?_, by omega, ?_⟩
      · rw [upd_same, List.map_append]; rfl
      · rw [List.length_append, hfl]; rfl
      · refine List.pairwise_append.mpr ⟨hpw, List.pairwise_singleton _ _, fun x hx y hy => ?_⟩
        have e : y = num + 1 + v := by simpa using hy
        have := (hb x hx).1
        omega
      · intro x hx
        rcases List.mem_append.mp hx with z | z
        · have := hb x z; omega
        · have e : x = num + 1 + v := by simpa using z
          omega
      · have e : ((i + 1 : Nat) : Int) = (i : Int) + 1 := rfl
        rw [e]
        omega
    rintro σ H7 ⟨fs, num, y5, rfl, S7, F7, hfl, hpw, hb, hlo, hhi⟩
    have fsm : Sm fs := fun x hx => by have := hb x hx; omega
    have fnd : fs.Nodup := asc_nodup hpw
    obtain ⟨a5, b5, c5, D7, d7⟩ := S7.dr
    refine ⟨.ref D, rfl, D, 5, a5, b5, c5, n + 2 + m, rfl, D7, d7, by omega, by decide, by decide, fun v3 a6 b6 c6 _ _ d8 => ?_⟩
    have S8 := S7.spin d8
    have F8 : upd H7 D (drl a6 b6 c6) fo = some (.lst (fs.map V.int)) := by rw [upd_ne foD]; exact F7
    generalize upd H7 D (drl a6 b6 c6) = H8 at S8 F8 ⊢
    have fin : ∀ (H' : Hp) (p : Addr) (ns : List Int) (j : Nat), DS H H' D j → j ≤ n + 3 + 2 * m → H p = none → H' p = some (.lst (ns.map V.int)) → ns.Perm fs → Q (.ref p) H' := by
      intro H' p ns j S hj hp hp2 pm
      obtain ⟨a', b', c', e1, e2⟩ := S.dr
      exact q H' p ns a' b' c' (pm.nodup_iff.mpr fnd) (by rw [pm.length_eq]; exact hfl) (fsm.perm pm) hp S.but hp2 e1 (e2.up hj)
    refine ⟨.int v3, rfl, rfl, _, rfl, ite2 (fun _ => ?_) (fun _ => ?_)⟩
    · exact ⟨.ref fo, rfl, fin H8 fo fs _ S8 (by omega) ffo F8 (List.Perm.refl _)⟩
    refine ⟨.int v3, rfl, rfl, _, rfl, ite2 (fun _ => ?_) (fun _ => ?_)⟩
    · refine ⟨.ref fo, rfl, fo, _, rfl, SqL.of F8, fun p np => ?_⟩
      refine fin _ p fs.reverse _ (S8.new np) (by omega) (S8.fr np) ?_ (List.reverse_perm _)
      rw [upd_same, List.map_reverse]
    refine ⟨.int v3, rfl, rfl, _, rfl, ite2 (fun _ => ?_) (fun _ => ?_)⟩
    · have e3 : (m : Int).fdiv 3 = ((m / 3 : Nat) : Int) := by
        rw [Int.fdiv_eq_ediv_of_nonneg _ (by decide)]
        omega
      refine ⟨.int m, rfl, _, _, rfl, rfl, ⟨by decide, by decide⟩, _, rfl, by rw [e3]; omega, by rw [e3]; omega, ?_⟩
      rw [e3, Int.toNat_natCast]
      refine for_range (lo := 0) (n := m / 3)
        (fun i σ H' => ∃ (gs : List Int) (y5 y7 : Option V), σ = [some (.ref D), some (.int m), some (.int g), some (.int num), some (.ref fo), y5, some (.int v3), y7] ∧ DS H H' D (n + 2 + m + 1 + i) ∧ H' fo = some (.lst (gs.map V.int)) ∧ gs.Perm fs)
        ⟨fs, _, none, rfl, S8, F8, List.Perm.refl _⟩ ?_ ?_
      · rintro i σ H' hi ⟨gs, z5, z7, rfl, S, Fo, pm⟩
        obtain ⟨a7, b7, c7, D9, d9⟩ := S.dr
        refine ⟨.ref D, rfl, .int m, rfl, _, _, rfl, rfl, D, (m : Int) - 1, a7, b7, c7, n + 2 + m + 1 + i, rfl, D9, d9, by omega, by omega, by omega, fun v a8 b8 c8 h0 h1 d10 => ?_⟩
        obtain ⟨t, rfl⟩ := Int.eq_ofNat_of_zero_le h0
        have S' := S.spin d10
        have Fo' : upd H' D (drl a8 b8 c8) fo = some (.lst (gs.map V.int)) := by rw [upd_ne foD]; exact Fo
        have hgl : gs.length = m := by rw [pm.length_eq]; exact hfl
        have ht : t + 2 ≤ gs.length := by omega
        refine ⟨.ref fo, rfl, _, rfl, _, rfl, _, rfl, _, _, rfl, rfl, _, rfl, fo, _, rfl, SqL.of Fo', fun p1 np1 => ?_⟩
        have ne1 : fo ≠ p1 := ne_of_none Fo' np1
        refine ⟨p1, _, rfl, SqL.of upd_same, fun p2 np2 => ?_⟩
        have ne12 : p1 ≠ p2 := ne_of_none upd_same np2
        have Fo1 : upd (upd H' D (drl a8 b8 c8)) p1 (.lst (cutV (gs.map V.int) (some (t : Int)) (some ((t : Int) + 2)))) fo = some (.lst (gs.map V.int)) := by rw [upd_ne ne1]; exact Fo'
        have ne2 : fo ≠ p2 := ne_of_none Fo1 np2
        refine ⟨.ref fo, rfl, _, rfl, _, rfl, _, rfl, _, _, rfl, rfl, _, rfl, fo, p2, gs.map V.int, (cutV (gs.map V.int) (some (t : Int)) (some ((t : Int) + 2))).reverse, (t : Int), (t : Int) + 2, rfl, rfl, rfl, rfl, ?_, upd_same, ne2, h0, by omega, ?_, ?_, ?_⟩
        · rw [upd_ne ne2]; exact Fo1
        · rw [List.length_map]; omega
        · rw [List.length_reverse, List.length_map]
          have := cutV_length (gs.map V.int) (some (t : Int)) (some ((t : Int) + 2))
          rw [List.length_map] at this
          unfold sizeLine; omega
        · rw [cut_two ht, swp_vals ht]
          refine ⟨swp gs t, _, _, rfl, ?_, upd_same, (swp_perm gs t).trans pm⟩
          rw [cut_two ht] at np2
          exact ((S'.new np1).new np2).write ffo
      · rintro σ H' ⟨gs, z5, z7, rfl, S, Fo, pm⟩
        exact ⟨.ref fo, rfl, fin H' fo gs _ S (by omega) ffo Fo pm⟩
    · refine ⟨.int m, rfl, m, rfl, by omega, by omega, fun p np => ?_⟩
      have fp := S8.fr np
      have pfo : fo ≠ p := ne_of_none F8 np
      have pD : p ≠ D := S0.ne fp
      refine lc_range (lo := 0) (n := m) (fun i H' => ∃ acc rest : List Int, H' p = some (.lst (acc.map V.int)) ∧ DS H H' D (n + 2 + m + 1 + i) ∧ H' fo = some (.lst (rest.map V.int)) ∧ acc.length = i ∧ (acc ++ rest).Perm fs) ?_ ?_ ?_
      · refine ⟨[], fs, upd_same, S8.new np, by rw [upd_ne pfo]; exact F8, rfl, List.Perm.refl _⟩
      · rintro i H' hi ⟨acc, rest, Fp, S, Fo, hal, pm⟩
        have hrl : acc.length + rest.length = m := by
          have z := pm.length_eq
          rw [List.length_append] at z
          omega
        obtain ⟨a7, b7, c7, D9, d9⟩ := S.dr
        refine ⟨rfl, iteT (B := ∃ acc rest : List Int, H' p = some (.lst (acc.map V.int)) ∧ DS H H' D (n + 2 + m + 1 + (i + 1)) ∧ H' fo = some (.lst (rest.map V.int)) ∧ acc.length = i + 1 ∧ (acc ++ rest).Perm fs) ?_⟩
        refine ⟨.ref fo, rfl, .inl ⟨rfl, _, SqL.of Fo⟩, .ref D, rfl, .ref fo, rfl, fo, _, rfl, .inl (SqL.of Fo), D, (rest.map V.int).length, a7, b7, c7, n + 2 + m + 1 + i, rfl, D9, d9, by omega, ?_, ?_, fun v a8 b8 c8 h0 h1 d10 => ?_⟩
        · rw [List.length_map]; omega
        · rw [List.length_map]; omega
        rw [List.length_map] at h1
        obtain ⟨t, rfl⟩ := Int.eq_ofNat_of_zero_le h0
        have ht : t < rest.length := by omega
        have S' := S.spin d10
        have Fo' : upd H' D (drl a8 b8 c8) fo = some (.lst (rest.map V.int)) := by rw [upd_ne foD]; exact Fo
        have at1 : rest[t]? = some rest[t] := List.getElem?_eq_getElem ht
        refine ⟨fo, _, (t : Int), t, .int rest[t], rfl, rfl, Fo', by omega, by omega, ?_, ?_, acc.map V.int, ?_, ?_, acc ++ [rest[t]], rest.eraseIdx t, ?_, ?_, ?_, ?_, ?_⟩
        · have z := seqIndex_of (k := (t : Int)) (n := (rest.map V.int).length) h0 (by rw [List.length_map]; omega)
          rw [Int.toNat_natCast] at z
          exact z
        · rw [List.getElem?_map, at1]; rfl
        · rw [upd_ne pfo.symm, upd_ne pD]; exact Fp
        · rw [List.length_map]; unfold sizeLine; omega
        · rw [upd_same, List.map_append]; rfl
        · exact (S'.write ffo).write fp
        · rw [upd_ne pfo, upd_same, erase_map]
        · rw [List.length_append, hal]; rfl
        · rw [List.append_assoc]
          exact (List.Perm.append_left acc (erase_perm at1)).trans pm
      · rintro H' ⟨acc, rest, Fp, S, Fo, hal, pm⟩
        have z := pm.length_eq
        rw [List.length_append] at z
        have er : rest = [] := List.eq_nil_of_length_eq_zero (by omega)
        subst er
        rw [List.append_nil] at pm
        exact fin H' p acc _ S (by omega) fp Fp pm
end
end My
namespace My
open PySem PySem.Spec PyProof.Rows L2
abbrev nLB : List Str := ["numbers", "found", "at", "number", "one"]
theorem scLBlocks : FnScope nLB ["numbers"] (defScope sLBlocks) := ⟨rfl, rfl, rfl, by decide +kernel, rfl, by decide +kernel, by decide +kernel⟩
section
variable {P : Program} {w : World} {K : PySem.W.Frag} {mg : Str → Option Value} {base : Heap}
theorem ok_lblocks {f : Addr} {fd : FuncData} {k : Nat} (F : Fun K "_law_blocks" "_law_blocks" sLBlocks f fd) (T : Txt mg) : FnOk P w K mg base CX0 (k + 1) f fd ["numbers"] spBlocks := by
  refine F.ok scLBlocks (fun vs H Q E h => ?_) (fun cdv A outer s H vs Q E hr h => ?_)
  · obtain ⟨a, ns, rfl, _⟩ := h
    rfl
  · obtain ⟨a, ns, rfl, hS, nd, hl, q⟩ := h
    refine ⟨_, pss_cons (ps_set (i := 1) scLBlocks.nd rfl (.inl rfl) (pe_lst pa_nil))
      (pss_cons (ps_for PassesOwn.never rfl (pi_enum (by rfl) T.enum (pa_cons (pv 0) pa_nil))
          (pg_tup (by rfl) (pgs_cons (pg_name (i := 2) scLBlocks.nd rfl (.inl rfl)) (pgs_cons (pg_name (i := 3) scLBlocks.nd rfl (.inr rfl)) pgs_nil)))
        (pss_cons (ps_if (pt_cmpR (op_eqD hr.units) (pe_lc (own := [("one", 4)]) (g := gName 4) (by rfl) scLBlocks.nd (pi_list (pe_slice sl_list (pv 0) po_none (po_some (pv 2))))
              (blkOk_by (own := [("one", 4)]) (N := nLB) (sc := defScope sLBlocks) (by decide +kernel)) (fun _ _ _ _ _ => pg_name (i := 4) scLBlocks.nd rfl (Or.inl rfl))
              (fun _ _ _ _ _ => pts_one (pt_cmpR op_gt (pv 4) (pv 3) (nomark _))) (fun _ _ _ _ _ => pv 4)) (pe_lst pa_nil) (nomark _))
            (pss_one (ps_expr (pe_bm PySem.F.plainAttrs_list PySem.F.slot_list_append PySem.F.type_list_append mt_append (pv 1) (pa_cons (pe_lst pa_nil) pa_nil)))) pss_nil)
        (pss_one (ps_expr (pe_bm PySem.F.plainAttrs_list PySem.F.slot_list_append PySem.F.type_list_append mt_append (pe_ix ix_list (pv 1) (pe_un un_neg pe_int) (fun _ _ => rfl)) (pa_cons (pv 3) pa_nil))))))
      (pss_one (ps_ret (pv 1)))), ?_⟩
    refine ⟨Nat.zero_le _, fun p np => ?_⟩
    have nap : a ≠ p := ne_of_none hS np
    refine ⟨.ref a, rfl, a, _, rfl, SqL.of (by rw [upd_ne nap]; exact hS), for_en (K := K) (a := a) (xs := ns.map V.int)
      (fun i σ H' => ∃ y2 y3 y4 qs, σ = [some (.ref a), some (.ref p), y2, y3, y4] ∧ NewRows H H' p qs (vv (cut (ns.take i))))
      ⟨none, none, none, [], rfl, sameN np, by simp, np, upd_same, by simp, Rws.nil⟩ ?_ ?_ ?_⟩
    · rintro i σ H' _ ⟨_, _, _, qs, _, N⟩
      exact SqL.of (N.same _ _ hS)
    · rintro i x σ H' tp hx ⟨y2, y3, y4, qs, rfl, N⟩ ntp
      rw [List.getElem?_map] at hx
      obtain ⟨n, hn, rfl⟩ := Option.map_eq_some_iff.mp hx
      have hi : i < ns.length := (List.getElem?_eq_some_iff.mp hn).1
      have hlen : qs.length ≤ 4000 := by
        have h1 := N.rows.len
        rw [vv_len] at h1
        have h2 := (good_cut (ns.take i)).len
        rw [List.length_take] at h2
        omega
      have nd' : (ns.take i ++ [n]).Nodup := by
        have e : ns.take i ++ [n] = ns.take (i + 1) := by rw [List.take_add_one, hn]; rfl
        rw [e]
        exact nd.sublist (List.take_sublist _ _)
      -- the new tuple
      have N1 : NewRows H (upd H' tp (.tup [.int (i : Nat), .int n])) p qs (vv (cut (ns.take i))) :=
        ⟨same0 N.same (N.same.free ntp), N.fresh, N.freshp, by rw [upd_ne (ne_of_none N.top ntp)]; exact N.top, N.off, N.rows.off (fun z => N.rows.there z ntp)⟩
      have hS1 : (upd H' tp (.tup [.int (i : Nat), .int n])) a = some (.lst (ns.map V.int)) := N1.same _ _ hS
      refine ⟨tp, _, rfl, .inl (.inl upd_same), rfl, _, _, rfl, _, _, rfl, rfl, ?_⟩
      generalize upd H' tp (.tup [.int (i : Nat), .int n]) = H1 at N1 hS1 ⊢
      -- numbers[:at]
      refine ⟨.ref a, rfl, .int (i : Nat), rfl, _, rfl, a, _, rfl, SqL.of hS1, fun sl nsl => ?_⟩
      rw [cut_to, ← List.map_take]
      have N2 : NewRows H (upd H1 sl (.lst ((ns.take i).map V.int))) p qs (vv (cut (ns.take i))) :=
        ⟨same0 N1.same (N1.same.free nsl), N1.fresh, N1.freshp, by rw [upd_ne (ne_of_none N1.top nsl)]; exact N1.top, N1.off, N1.rows.off (fun z => N1.rows.there z nsl)⟩
      have hsl : (upd H1 sl (.lst ((ns.take i).map V.int))) sl = some (.lst ((ns.take i).map V.int)) := upd_same
      generalize upd H1 sl (.lst ((ns.take i).map V.int)) = H2 at N2 hsl ⊢
      refine ⟨sl, rfl, ⟨_, SqL.of hsl⟩, fun Dl nDl => ?_⟩
      have nsD : sl ≠ Dl := ne_of_none hsl nDl
      refine lc_list (K := K) (a := sl) (xs := (ns.take i).map V.int) (fun j H' => H' = upd H2 Dl (.lst ((((ns.take i).take j).filter fun o => decide (n < o)).map V.int))) rfl ?_ ?_ ?_
      · rintro j H' _ rfl
        exact SqL.of (by rw [upd_ne nsD]; exact hsl)
      · rintro j x H' hx rfl
        rw [List.getElem?_map] at hx
        obtain ⟨o, ho, rfl⟩ := Option.map_eq_some_iff.mp hx
        refine ⟨rfl, .int o, rfl, .int n, rfl, _, _, rfl, rfl, _, rfl, ?_⟩
        have et : (ns.take i).take (j + 1) = (ns.take i).take j ++ [o] := by rw [List.take_add_one, ho]; rfl
        have hjl : ((ns.take i).take j).length ≤ 4000 := by rw [List.length_take, List.length_take]; omega
        refine ite2 (fun e => ?_) (fun e => ?_)
        · have e' : n < o := of_decide_eq_true e
          refine ⟨.int o, rfl, _, upd_same, ?_, ?_⟩
          · rw [List.length_map]
            have := List.length_filter_le (fun o => decide (n < o)) ((ns.take i).take j)
            unfold sizeLine; omega
          · rw [upd_upd, et, List.filter_append, List.filter_cons_of_pos (by exact decide_eq_true e'), List.map_append]
            rfl
        · have e' : ¬ n < o := fun z => e (decide_eq_true z)
          rw [et, List.filter_append, List.filter_cons_of_neg (by simpa using e')]
          simp
      rintro H' rfl
      rw [List.length_map, List.take_length]
      have N3 : NewRows H (upd H2 Dl (.lst (((ns.take i).filter fun o => decide (n < o)).map V.int))) p qs (vv (cut (ns.take i))) :=
        ⟨same0 N2.same (N2.same.free nDl), N2.fresh, N2.freshp, by rw [upd_ne (ne_of_none N2.top nDl)]; exact N2.top, N2.off, N2.rows.off (fun z => N2.rows.there z nDl)⟩
      have hDl : (upd H2 Dl (.lst (((ns.take i).filter fun o => decide (n < o)).map V.int))) Dl = some (.lst (((ns.take i).filter fun o => decide (n < o)).map V.int)) := upd_same
      generalize upd H2 Dl (.lst (((ns.take i).filter fun o => decide (n < o)).map V.int)) = H3 at N3 hDl ⊢
      refine ⟨Nat.zero_le _, fun el nel => ?_⟩
      have N4 : NewRows H (upd H3 el (.lst [])) p qs (vv (cut (ns.take i))) :=
        ⟨same0 N3.same (N3.same.free nel), N3.fresh, N3.freshp, by rw [upd_ne (ne_of_none N3.top nel)]; exact N3.top, N3.off, N3.rows.off (fun z => N3.rows.there z nel)⟩
      have hDl4 : (upd H3 el (.lst [])) Dl = some (.lst (((ns.take i).filter fun o => decide (n < o)).map V.int)) := by rw [upd_ne (ne_of_none hDl nel)]; exact hDl
      have hel : (upd H3 el (.lst [])) el = some (.lst []) := upd_same
      generalize upd H3 el (.lst []) = H4 at N4 hDl4 hel ⊢
      refine ⟨dI ((ns.take i).filter fun o => decide (n < o)), dI [], dpI (SqL.of hDl4), dpI (ns := []) (SqL.of hel), shaped_I _, shaped_I _, _, rfl, ?_⟩
      have eq1 : PyData.eqv (dI ((ns.take i).filter fun o => decide (n < o))) (dI []) = ((ns.take i).filter fun o => decide (n < o)).isEmpty := by
        unfold dI
        rw [List.map_nil, eqv_empty, List.isEmpty_map]
      rw [eq1]
      by_cases hask : (cut (ns.take i) = [] ∨ ∃ ini x r, cut (ns.take i) = ini ++ [x :: r] ∧ x < n)
      · have e0 : ((ns.take i).filter fun o => decide (n < o)) = [] := (cut_ask nd').mpr hask
        rw [e0]
        refine iteT ?_
        refine ⟨.ref p, rfl, .inl ⟨rfl, _, SqL.of N4.top⟩, Nat.zero_le _, fun q5 nq => ?_⟩
        have npq : p ≠ q5 := ne_of_none N4.top nq
        have nqs : q5 ∉ qs := fun z => N4.rows.there z nq
        refine ⟨p, _, _, rfl, rfl, by rw [upd_ne npq]; exact N4.top, ?_, ?_⟩
        · rw [List.length_map]; unfold sizeLine; omega
        -- found[-1].append(number)
        have top5 : upd (upd H4 q5 (.lst [])) p (.lst (qs.map V.ref ++ [.ref q5])) p = some (.lst ((qs ++ [q5]).map V.ref)) := by rw [upd_same, List.map_append]; rfl
        have at5 : upd (upd H4 q5 (.lst [])) p (.lst (qs.map V.ref ++ [.ref q5])) q5 = some (.lst []) := by rw [upd_ne npq.symm, upd_same]
        refine ⟨.ref p, rfl, 1, rfl, p, _, _, .ref q5, rfl, rfl, SqL.of top5, atI_last1, .inl ⟨rfl, _, SqL.of at5⟩, .int n, rfl, q5, _, _, rfl, rfl, at5, (show 0 < sizeLine by decide), ?_⟩
        refine ⟨_, _, _, qs ++ [q5], rfl, same0 (same0 (same0 N4.same (N4.same.free nq)) N4.freshp) (N4.same.free nq), ?_, N4.freshp, ?_, ?_, ?_⟩
        · intro z hz
          rcases List.mem_append.mp hz with y | y
          · exact N4.fresh z y
          · have e2 : z = q5 := by simpa using y
            rw [e2]; exact N4.same.free nq
        · rw [upd_ne npq]; exact top5
        · intro z
          rcases List.mem_append.mp z with y | y
          · exact N4.off y
          · exact npq (by simpa using y)
        · rw [cut_take hn, put_new hask]
          have R1 := (N4.rows.push (b := []) nq).off (o := .lst (qs.map V.ref ++ [.ref q5])) (p := p) (by
            intro z
            rcases List.mem_append.mp z with y | y
            · exact N4.off y
            · exact npq (by simpa using y))
          have R2 := R1.put (b := [] ++ [V.int n]) (show (qs ++ [q5])[qs.length]? = some q5 by simp)
          have hql : qs.length = (vv (cut (ns.take i))).length := N4.rows.len
          rw [hql, List.set_append_right _ _ (Nat.le_refl _), Nat.sub_self] at R2
          have ev : vv (cut (ns.take i) ++ [[n]]) = vv (cut (ns.take i)) ++ [[] ++ [V.int n]] := List.map_append ..
          rw [ev]
          exact R2
      · have e0 : ((ns.take i).filter fun o => decide (n < o)) ≠ [] := fun z => hask ((cut_ask nd').mp z)
        have e1 : ((ns.take i).filter fun o => decide (n < o)).isEmpty = false := by
          cases z : ((ns.take i).filter fun o => decide (n < o)) with
          | nil => exact absurd z e0
          | cons x r => rfl
        rw [e1]
        refine iteF ?_
        obtain ⟨ini, m, r, e, hput⟩ := put_old hask
        have hv : vv (cut (ns.take i)) = vv ini ++ [(m :: r).map V.int] := by rw [e]; exact List.map_append ..
        have hql : qs.length = (vv ini).length + 1 := by rw [N4.rows.len, hv, List.length_append]; rfl
        obtain ⟨qi, ql, hqe⟩ : ∃ qi ql, qs = qi ++ [ql] := by
          rcases List.eq_nil_or_concat qs with z | ⟨a1, b1, z⟩
          · rw [z] at hql; cases hql
          · exact ⟨a1, b1, by rw [z, List.concat_eq_append]⟩
        subst hqe
        have hqi : qi.length = (vv ini).length := by
          rw [List.length_append] at hql
          have : [ql].length = 1 := rfl
          omega
        have at1 : (qi ++ [ql])[qi.length]? = some ql := by simp
        have at2 : (vv (cut (ns.take i)))[qi.length]? = some ((m :: r).map V.int) := by rw [hv, hqi]; simp
        have hlast : H4 ql = some (.lst ((m :: r).map V.int)) := N4.rows.get _ _ _ at1 at2
        have npl : p ≠ ql := fun z => N4.off (by rw [z]; simp)
        refine ⟨.ref p, rfl, 1, rfl, p, _, _, .ref ql, rfl, rfl, SqL.of N4.top, atI_last1, .inl ⟨rfl, _, SqL.of hlast⟩, .int n, rfl, ql, _, _, rfl, rfl, hlast, ?_, ?_⟩
        · rw [List.length_map]
          have h1 := (good_cut (ns.take i)).rowlen (b := m :: r) (by rw [e]; simp)
          rw [List.length_take] at h1
          unfold sizeLine; omega
        refine ⟨_, _, _, qi ++ [ql], rfl, same0 N4.same (N4.fresh ql (by simp)), N4.fresh, N4.freshp, ?_, N4.off, ?_⟩
        · rw [upd_ne npl]; exact N4.top
        · rw [cut_take hn, hput]
          have R := N4.rows.put (b := (m :: r).map V.int ++ [V.int n]) at1
          rw [hv, hqi, List.set_append_right _ _ (Nat.le_refl _), Nat.sub_self] at R
          have ev : vv (ini ++ [(m :: r) ++ [n]]) = vv ini ++ [(m :: r).map V.int ++ [V.int n]] := by
            show (ini ++ [(m :: r) ++ [n]]).map _ = _
            rw [List.map_append, List.map_singleton, List.map_append]
            rfl
          rw [ev]
          exact R
    · rintro σ H' ⟨_, _, _, qs, rfl, N⟩
      rw [List.length_map, List.take_length] at N
      exact ⟨.ref p, rfl, q H' p qs N⟩
end
end My
namespace My
open PySem PySem.Spec PyProof.Rows L2
abbrev nR : List Str := ["numbers", "kept", "due", "again", "told", "block"]
theorem scRight : FnScope nR ["numbers"] (defScope sRight) := ⟨rfl, rfl, rfl, by decide +kernel, rfl, by decide +kernel, by decide +kernel⟩
abbrev oddV : V := .str "odd"
/-- the first i rows have got one item more -/
def oddTo (bs : List (List V)) (i : Nat) : List (List V) := (bs.take i).map (fun b => b ++ [oddV]) ++ bs.drop i
theorem oddTo_at {bs : List (List V)} {i : Nat} {b : List V} (h : bs[i]? = some b) : (oddTo bs i)[i]? = some b := by
  have hl : i < bs.length := (List.getElem?_eq_some_iff.mp h).1
  have e : ((bs.take i).map (fun b => b ++ [oddV])).length = i := by rw [List.length_map, List.length_take]; omega
  unfold oddTo
  rw [List.getElem?_append_right (by omega), e, Nat.sub_self, List.getElem?_drop, Nat.add_zero]
  exact h
theorem oddTo_set {bs : List (List V)} {i : Nat} {b : List V} (h : bs[i]? = some b) : (oddTo bs i).set i (b ++ [oddV]) = oddTo bs (i + 1) := by
  have hl : i < bs.length := (List.getElem?_eq_some_iff.mp h).1
  have e : ((bs.take i).map (fun b => b ++ [oddV])).length = i := by rw [List.length_map, List.length_take]; omega
  unfold oddTo
  rw [List.set_append_right _ _ (by omega), e, Nat.sub_self, List.take_add_one, h, List.map_append, List.append_assoc]
  have e2 : bs.drop i = b :: bs.drop (i + 1) := by
    rw [List.drop_eq_getElem_cons hl]
    have := List.getElem?_eq_some_iff.mp h
    rw [this.2]
  rw [e2]
  rfl
theorem oddTo_zero (bs : List (List V)) : oddTo bs 0 = bs := by
  unfold oddTo
  rw [List.take_zero, List.drop_zero]
  rfl
theorem oddTo_all (bs : List (List V)) : oddTo bs bs.length = bs.map fun b => b ++ [oddV] := by
  unfold oddTo
  rw [List.take_length, List.drop_length, List.append_nil]
/-- a row of ints with the text behind -/
def dO (ns : List Int) : PyData := .list (ns.map .int ++ [.str "odd"])
theorem dpAll_app {K : PySem.W.Frag} {H : Hp} : ∀ {xs ys : List V} {ds es : List PyData}, DpAll K H xs ds → DpAll K H ys es → DpAll K H (xs ++ ys) (ds ++ es)
  | _, _, _, _, .nil, h => h
  | _, _, _, _, .cons a b, h => .cons a (dpAll_app b h)
theorem dpO {K : PySem.W.Frag} {H : Hp} {a : Addr} {ns : List Int} (h : SqL K H a (ns.map V.int ++ [oddV])) : Dp K H (.ref a) (dO ns) :=
  .lst h (dpAll_app (dpAll_ints ns) (.cons (.str "odd") .nil))
theorem lay_O : ∀ ns : List Int, PyData.canLayAll0 (ns.map PyData.int ++ [PyData.str "odd"]) = true
  | [] => by decide +kernel
  | n :: ns => by
    have := lay_O ns
    simp [PyData.canLayAll0, PyData.canLay0, this]
theorem dep_O : ∀ ns : List Int, PyData.depthAll (ns.map PyData.int ++ [PyData.str "odd"]) ≤ 1
  | [] => by simp [PyData.depthAll, PyData.depth]
  | n :: ns => by
    have := dep_O ns
    simp only [List.map_cons, List.cons_append, PyData.depthAll, PyData.depth]
    omega
theorem shaped_O (ns : List Int) : SeqAt.shaped (dO ns) = true := by
  have h := dep_O ns
  have hd : (dO ns).depth ≤ 2 := by
    unfold dO
    simp only [PyData.depth]
    omega
  show ((dO ns).canLay0 && decide ((dO ns).depth ≤ 64)) = true
  rw [Bool.and_eq_true]
  refine ⟨?_, decide_eq_true (by omega)⟩
  unfold dO
  simp only [PyData.canLay0]
  exact lay_O ns
theorem count_O : ∀ ns : List Int, (ns.map PyData.int ++ [PyData.str "odd"]).countP (fun z => PyData.eqv z (.str "odd")) = 1
  | [] => by decide +kernel
  | n :: ns => by
    have := count_O ns
    rw [List.map_cons, List.cons_append, List.countP_cons, this]
    simp [PyData.eqv]
theorem shaped_odd : SeqAt.shaped (PyData.str "odd") = true := by decide +kernel

section
variable {P : Program} {w : World} {K : PySem.W.Frag} {mg : Str → Option Value} {base : Heap}
def spRight : Sp := fun vs H Q _ => ∃ (a : Addr) (ns : List Int), vs = [.ref a] ∧ H a = some (.lst (ns.map V.int)) ∧ ns.Nodup ∧ ns.length ≤ 300 ∧ Sh ns ∧ ∀ H', Same H H' → Q (.bl true) H'
abbrev ttCnt (K : PySem.W.Frag) : TT := tTest (tOp rNe (tBM K "list" (rCnt K) (tVar 5) (tCons (tC oddV) tNil)) (tC (.int 1)))
theorem ok_right {f fB fL : Addr} {fd fdB fdL : FuncData} {k : Nat} (F : Fun K "_law_right" "_law_right" sRight f fd) (T : Txt mg)
    (GB : FnOk P w K mg base CX0 k fB fdB ["numbers"] spBlocks) (gB : mg "blocks_of" = some (.ref fB)) (kB : PySem.W.keepIn K (.ref fB) = true) (bB : Binds K fdB ["numbers"] [])
    (GL : FnOk P w K mg base CX0 k fL fdL ["numbers"] spBlocks) (gL : mg "_law_blocks" = some (.ref fL)) (kL : PySem.W.keepIn K (.ref fL) = true) (bL : Binds K fdL ["numbers"] []) :
    FnG P w K mg base (k + 1) f fd ["numbers"] spRight := by
  refine okG F scRight (fun vs H Q E h => ?_) (fun cdv A outer s H vs Q E gu hr h => ?_)
  · obtain ⟨a, ns, rfl, _⟩ := h
    rfl
  · obtain ⟨a, ns, rfl, hS, nd, hl, hsh, q⟩ := h
    have hu : (A.deeper (envOfC "_law_right" (defScope sRight) s.heap.objs.size f cdv)).units + 100 < cLine := by have := hr.un; omega
    have hu65 : (A.deeper (envOfC "_law_right" (defScope sRight) s.heap.objs.size f cdv)).units + 65 < cLine := by omega
    refine ⟨_, pss_cons (ps_par (i := 1) (j := 2) (by rfl) scRight.nd rfl rfl (by decide) rfl rfl
        (pa_cons (pe_callB (cr_rep gu hu) (by rfl) T.repr (by decide +kernel) (pa_cons (pv 0) pa_nil)) (pa_cons (pe_call GL hr (by rfl) gL kL bL .nil pass0 (pa_cons (pv 0) pa_nil)) pa_nil)) (by rfl))
      (pss_cons (ps_for PassesOwn.never rfl (pi_range1 (by rfl) T.range (pa_cons pe_int pa_nil)) (pg_name (i := 3) scRight.nd rfl (.inl rfl))
        (pss_cons (ps_set (i := 4) scRight.nd rfl (.inl rfl) (pe_call GB hr (by rfl) gB kB bB .nil pass0 (pa_cons (pv 0) pa_nil)))
        (pss_cons (ps_if (PW.pt (pw_or (pt_cmpR op_ne (pe_callB (cr_rep gu hu) (by rfl) T.repr (by decide +kernel) (pa_cons (pv 4) pa_nil)) (pe_callB (cr_rep gu hu) (by rfl) T.repr (by decide +kernel) (pa_cons (pv 2) pa_nil)) (nomark _))
            (pw_or1 (pt_cmpR op_ne (pe_callB (cr_rep gu hu) (by rfl) T.repr (by decide +kernel) (pa_cons (pv 0) pa_nil)) (pv 1) (nomark _))))) (pss_one (ps_ret pe_bl)) pss_nil)
        (pss_cons (ps_for PassesOwn.never rfl (pi_list (pv 4)) (pg_name (i := 5) scRight.nd rfl (.inl rfl))
          (pss_one (ps_expr (pe_bm PySem.F.plainAttrs_list PySem.F.slot_list_append PySem.F.type_list_append mt_append (pv 5) (pa_cons pe_str pa_nil)))))
        (pss_cons (ps_if (pt_cmpR (op_neD hr.units) (pe_lc (tt := ttCnt K) (te := tVar 5) (own := [("block", 5)]) (g := gName 5) (by rfl) scRight.nd (pi_list (pv 4)) (blkOk_by (own := [("block", 5)]) (N := nR) (sc := defScope sRight) (by decide +kernel))
            (fun _ _ _ _ _ => pg_name (i := 5) scRight.nd rfl (Or.inl rfl))
            (fun _ _ _ _ _ => pts_one (pt_cmpR op_ne (pe_bm PySem.F.plainAttrs_list PySem.F.slot_list_count PySem.F.type_list_count (mt_cnt hu65) (pv 5) (pa_cons pe_str pa_nil)) pe_int (nomark _)))
            (fun _ _ _ _ _ => pv 5)) (pe_lst pa_nil) (nomark _)) (pss_one (ps_ret pe_bl)) pss_nil)
        (pss_one (ps_expr (pe_bm0 PySem.F.plainAttrs_list PySem.F.slot_list_clear PySem.F.type_list_clear mt_clear (pv 4)))))))))
      (pss_one (ps_ret pe_bl))), ?_⟩
    obtain ⟨i1, i2, i3, i4⟩ := askI hsh (show ns.length ≤ 4000 by omega)
    obtain ⟨r1, r2, r3, r4⟩ := askR ((good_cut ns).sh hsh hl) (Nat.le_trans (good_cut ns).len hl)
    refine ⟨.ref a, rfl, a, dI ns, rfl, dpI (SqL.of hS), i1, i2, i3, i4, .ref a, rfl, a, ns, rfl, hS, nd, by omega, fun H1 pd qd N1 => ⟨_, _, rfl, ?_⟩⟩
    refine ⟨2, rfl, by decide, by decide, for_range (lo := 0) (n := 2)
      (fun i σ H' => ∃ y3 y4 y5, σ = [some (.ref a), some (.str (dI ns).shown), some (.ref pd), y3, y4, y5] ∧ Same H1 H') ⟨none, none, none, rfl, Same.refl _⟩ ?_ ?_⟩
    · rintro i σ H' _ ⟨y3, y4, y5, rfl, sm⟩
      have sm0 : Same H H' := N1.same.trans sm
      have hS' : H' a = some (.lst (ns.map V.int)) := sm0 _ _ hS
      refine ⟨.ref a, rfl, a, ns, rfl, hS', nd, by omega, fun H2 pt qt N2 => ?_⟩
      have Rd : Rws H2 qd (vv (cut ns)) := N1.rows.same (sm.trans N2.same)
      have td : H2 pd = some (.lst (qd.map V.ref)) := N2.same _ _ (sm _ _ N1.top)
      refine ⟨.ref pt, rfl, pt, dR (cut ns), rfl, dpR N2.top N2.rows, r1, r2, r3, r4, .ref pd, rfl, pd, dR (cut ns), rfl, dpR td Rd, r1, r2, r3, r4, rfl, _, rfl, iteNS rfl ?_⟩
      refine ⟨.ref a, rfl, a, dI ns, rfl, dpI (SqL.of (N2.same _ _ hS')), i1, i2, i3, i4, .str (dI ns).shown, rfl, rfl, _, rfl, iteNS rfl ?_⟩
      -- the blocks are made longer
      refine ⟨.ref pt, rfl, pt, rfl, ⟨_, SqL.of N2.top⟩, for_list (K := K) (a := pt) (xs := qt.map V.ref)
        (fun j σ H3 => ∃ y5, σ = [some (.ref a), some (.str (dI ns).shown), some (.ref pd), some (.int (0 + (i : Int))), some (.ref pt), y5] ∧ NewRows H' H3 pt qt (oddTo (vv (cut ns)) j))
        ⟨y5, rfl, by rw [oddTo_zero]; exact N2⟩ ?_ ?_ ?_⟩
      · rintro j σ H3 _ ⟨_, _, N3⟩
        exact SqL.of N3.top
      · rintro j x σ H3 hx ⟨z5, rfl, N3⟩
        rw [List.getElem?_map] at hx
        obtain ⟨qq, hq, rfl⟩ := Option.map_eq_some_iff.mp hx
        have hjl : j < (vv (cut ns)).length := by
          have h1 := (List.getElem?_eq_some_iff.mp hq).1
          have h2 := N2.rows.len
          omega
        have hb : (vv (cut ns))[j]? = some (vv (cut ns))[j] := List.getElem?_eq_getElem hjl
        have h3 : H3 qq = some (.lst (vv (cut ns))[j]) := N3.rows.get _ _ _ hq (oddTo_at hb)
        refine ⟨.ref qq, rfl, (.inl ⟨rfl, _, SqL.of h3⟩), qq, _, _, rfl, rfl, h3, ?_, ?_⟩
        · have hj2 : j < (cut ns).length := by rw [← vv_len]; exact hjl
          have e1 : (vv (cut ns))[j] = ((cut ns)[j]).map V.int := by simp
          rw [e1, List.length_map]
          have := (good_cut ns).rowlen (List.getElem_mem hj2)
          unfold sizeLine; omega
        have ptq : pt ≠ qq := fun z => N3.off (z ▸ List.mem_of_getElem? hq)
        refine ⟨_, rfl, same0 N3.same (N3.fresh qq (List.mem_of_getElem? hq)), N3.fresh, N3.freshp, ?_, N3.off, ?_⟩
        · rw [upd_ne ptq]; exact N3.top
        · rw [← oddTo_set hb]
          exact N3.rows.put hq
      rintro σ H3 ⟨z5, rfl, N3⟩
      have hql : (qt.map V.ref).length = (vv (cut ns)).length := by rw [List.length_map]; exact N2.rows.len
      rw [hql, oddTo_all] at N3
      -- each has the new item once
      refine ⟨.ref pt, rfl, pt, rfl, ⟨_, SqL.of N3.top⟩, fun Dl nDl => ?_⟩
      have ptD : pt ≠ Dl := ne_of_none N3.top nDl
      refine lc_list (K := K) (a := pt) (xs := qt.map V.ref) (fun j H4 => H4 = upd H3 Dl (.lst [])) rfl ?_ ?_ ?_
      · rintro j H4 _ rfl
        exact SqL.of (by rw [upd_ne ptD]; exact N3.top)
      · rintro j x H4 hx rfl
        rw [List.getElem?_map] at hx
        obtain ⟨qq, hq, rfl⟩ := Option.map_eq_some_iff.mp hx
        have hj2 : j < (cut ns).length := by
          have h1 := (List.getElem?_eq_some_iff.mp hq).1
          have h2 := N2.rows.len
          rw [vv_len] at h2
          omega
        have hb : ((vv (cut ns)).map fun b => b ++ [oddV])[j]? = some (((cut ns)[j]).map V.int ++ [oddV]) := by
          rw [List.getElem?_map, List.getElem?_map, List.getElem?_eq_getElem hj2]; rfl
        have h3 : H3 qq = some (.lst (((cut ns)[j]).map V.int ++ [oddV])) := N3.rows.get _ _ _ hq hb
        have qD : qq ≠ Dl := ne_of_none h3 nDl
        have h4 : upd H3 Dl (.lst []) qq = some (.lst (((cut ns)[j]).map V.int ++ [oddV])) := by rw [upd_ne qD]; exact h3
        refine ⟨rfl, .ref qq, rfl, .inl ⟨rfl, _, SqL.of h4⟩, qq, oddV, PyData.str "odd", ((cut ns)[j]).map PyData.int ++ [PyData.str "odd"], rfl, rfl, dpO (SqL.of h4), Dp.str "odd", shaped_O _, shaped_odd, ?_⟩
        rw [count_O]
        exact ⟨rfl, _, rfl, iteF rfl⟩
      rintro H4 rfl
      refine ⟨Nat.zero_le _, fun el nel => ?_⟩
      have DlEl : Dl ≠ el := ne_of_none upd_same nel
      refine ⟨dI [], dI [], dpI (ns := []) (SqL.of (by rw [upd_ne DlEl, upd_same]; rfl)), dpI (ns := []) (SqL.of upd_same), shaped_I _, shaped_I _, _, rfl, ?_⟩
      have eq1 : PyData.eqv (dI []) (dI []) = true := by unfold dI; rw [List.map_nil, eqv_empty]; rfl
      rw [eq1]
      refine iteF ?_
      have t5 : upd (upd H3 Dl (.lst [])) el (.lst []) pt = some (.lst (qt.map V.ref)) := by
        rw [upd_ne (ne_of_none (by rw [upd_ne ptD]; exact N3.top) nel), upd_ne ptD]; exact N3.top
      refine ⟨.ref pt, rfl, .inl ⟨rfl, _, SqL.of t5⟩, pt, _, rfl, rfl, t5, ?_⟩
      refine ⟨_, _, _, rfl, ?_⟩
      have s3 : Same H' H3 := N3.same
      have s4 : Same H' (upd H3 Dl (.lst [])) := same0 s3 (s3.free nDl)
      exact sm.trans (same0 (same0 s4 (s4.free nel)) N3.freshp)
    · rintro σ H' ⟨y3, y4, y5, rfl, sm⟩
      exact q H' (N1.same.trans sm)
end
end My
namespace My
open PySem PySem.Spec PyProof.Rows L2
abbrev nLaw : List Str := ["script", "k", "drum", "turn", "many", "numbers"]
theorem scLaw : FnScope nLaw ["script"] (defScope sLaw) := ⟨rfl, rfl, rfl, by decide +kernel, rfl, by decide +kernel, by decide +kernel⟩
theorem same_but {D : Addr} {H H' H'' : Hp} (s : Same H H') (n : H D = none) (b : But D H' H'') : Same H H'' := fun x o e => b x o (fun z => by rw [z, n] at e; cases e) (s x o e)
theorem b2_pick {b : Bool} (x y : Int) (p : Int → Prop) (hx : p x) (hy : p y) : ∃ g, atI [V.int x, V.int y] (b2i b) = some (.int g) ∧ p g := by
  cases b with
  | false => exact ⟨x, atI_nat (j := 0) rfl, hx⟩
  | true => exact ⟨y, atI_nat (j := 1) rfl, hy⟩
theorem Sm.sh {ns : List Int} (h : Sm ns) : Sh ns := fun x hx => by have := h x hx; omega
theorem lower_ok {ns : List Int} {m : Int} (nd : ns.Nodup) (sm : Sm ns) (hm : m ∈ ns ++ [0]) (hle : ∀ y ∈ ns ++ [0], m ≤ y) : (ns ++ [m - 1]).Nodup ∧ (∀ x ∈ ns ++ [m - 1], -(10 ^ 31) - 1 ≤ x ∧ x ≤ 10 ^ 31) := by
  have hm1 : -(10 ^ 31) ≤ m ∧ m ≤ 10 ^ 31 := by
    rcases List.mem_append.mp hm with z | z
    · exact sm m z
    · have e : m = 0 := by simpa using z
      omega
  refine ⟨List.nodup_append.mpr ⟨nd, by simp, ?_⟩, ?_⟩
  · intro x hx y hy e
    have e1 : y = m - 1 := by simpa using hy
    have := hle x (List.mem_append_left _ hx)
    omega
  · intro x hx
    rcases List.mem_append.mp hx with z | z
    · have := sm x z; omega
    · have e : x = m - 1 := by simpa using z
      omega
theorem upper_ok {ns : List Int} {m : Int} (nd : ns.Nodup) (sm : ∀ x ∈ ns, -(10 ^ 31) - 1 ≤ x ∧ x ≤ 10 ^ 31) (hm : m ∈ ns) (hle : ∀ y ∈ ns, y ≤ m) : (ns ++ [m + 1]).Nodup ∧ Sh (ns ++ [m + 1]) := by
  have hm1 := sm m hm
  refine ⟨List.nodup_append.mpr ⟨nd, by simp, ?_⟩, ?_⟩
  · intro x hx y hy e
    have e1 : y = m + 1 := by simpa using hy
    have := hle x hx
    omega
  · intro x hx
    rcases List.mem_append.mp hx with z | z
    · have := sm x z; omega
    · have e : x = m + 1 := by simpa using z
      omega

section
variable {P : Program} {w : World} {K : PySem.W.Frag} {mg : Str → Option Value} {base : Heap}
def spLaw (K : PySem.W.Frag) : Sp := fun vs H Q _ => ∃ (a : Addr) (ns : List Int), vs = [.ref a] ∧ SqL K H a (ns.map V.int) ∧ ns.length ≤ 63 ∧ ∀ H', Q (.bl true) H'
theorem ok_law {f fB fD fS fN fR : Addr} {fd fdB fdD fdS fdN fdR : FuncData} {k : Nat} (F : Fun K "law" "law" sLaw f fd) (T : Txt mg)
    (GB : FnOk P w K mg base CX0 k fB fdB ["numbers"] spBlocks) (gB : mg "blocks_of" = some (.ref fB)) (kB : PySem.W.keepIn K (.ref fB) = true) (bB : Binds K fdB ["numbers"] [])
    (GD : FnOk P w K mg base CX0 k fD fdD ["script", "k"] (spDrum K)) (gD : mg "_law_drum" = some (.ref fD)) (kD : PySem.W.keepIn K (.ref fD) = true) (bD : Binds K fdD ["script", "k"] [])
    (GS : FnOk P w K mg base CX0 k fS fdS ["drum", "size"] spSpin) (gS : mg "_law_spin" = some (.ref fS)) (kS : PySem.W.keepIn K (.ref fS) = true) (bS : Binds K fdS ["drum", "size"] [])
    (GN : FnOk P w K mg base CX0 k fN fdN ["drum", "many"] spNumbers) (gN : mg "_law_numbers" = some (.ref fN)) (kN : PySem.W.keepIn K (.ref fN) = true) (bN : Binds K fdN ["drum", "many"] [])
    (GR : FnG P w K mg base k fR fdR ["numbers"] spRight) (gR : mg "_law_right" = some (.ref fR)) (kR : PySem.W.keepIn K (.ref fR) = true) (bR : Binds K fdR ["numbers"] []) :
    FnG P w K mg base (k + 1) f fd ["script"] (spLaw K) := by
  refine okG F scLaw (fun vs H Q E h => ?_) (fun cdv A outer s H vs Q E gu hr h => ?_)
  · obtain ⟨a, ns, rfl, _⟩ := h
    rfl
  · obtain ⟨a, ns, rfl, hS, hl, q⟩ := h
    refine ⟨_, pss_cons (ps_for PassesOwn.never rfl (pi_range1 (by rfl) T.range (pa_cons (pe_callB (call_max2 rfl) (by rfl) T.max (by decide +kernel) (pa_cons pe_int (pa_cons (pe_callB (call_min2 rfl) (by rfl) T.min (by decide +kernel)
            (pa_cons pe_int (pa_cons (pe_op op_add (pe_callB call_len_seq (by rfl) T.len PySem.boot_len (pa_cons (pv 0) pa_nil)) pe_int) pa_nil))) pa_nil))) pa_nil)) (pg_name (i := 1) scLaw.nd rfl (.inl rfl))
        (pss_cons (ps_set (i := 2) scLaw.nd rfl (.inl rfl) (pe_call GD hr (by rfl) gD kD bD .nil pass0 (pa_cons (pv 0) (pa_cons (pv 1) pa_nil))))
        (pss_one (ps_for PassesOwn.never rfl (pi_range1 (by rfl) T.range (pa_cons pe_int pa_nil)) (pg_name (i := 3) scLaw.nd rfl (.inl rfl))
          (pss_cons (ps_set (i := 4) scLaw.nd rfl (.inl rfl) (pe_ix ix_list (pe_lst (pa_cons pe_int (pa_cons pe_int (pa_cons
              (pe_ix ix_list (pe_lst (pa_cons pe_int (pa_cons pe_int pa_nil))) (pe_callTy call_int1 (by rfl) T.int (by decide +kernel) (pa_cons (pe_cmpR op_eq (pe_op op_add (pv 1) (pv 3)) pe_int (nomark _)) pa_nil)) (fun _ _ => rfl)) pa_nil))))
              (pe_call GS hr (by rfl) gS kS bS .nil pass0 (pa_cons (pv 2) (pa_cons pe_int pa_nil))) (fun _ _ => rfl)))
          (pss_cons (ps_set (i := 5) scLaw.nd rfl (.inl rfl) (pe_call GN hr (by rfl) gN kN bN .nil pass0 (pa_cons (pv 2) (pa_cons (pe_call GS hr (by rfl) gS kS bS .nil pass0 (pa_cons (pv 2) (pa_cons (pe_op op_add (pv 4) pe_int) pa_nil))) pa_nil))))
          (pss_cons (ps_if (pt_not (pt_val (pe_callG GR hr gu (by rfl) gR kR bR pass0 (pa_cons (pv 5) pa_nil)))) (pss_one (ps_ret pe_bl)) pss_nil)
          (pss_cons (ps_expr (pe_bm PySem.F.plainAttrs_list PySem.F.slot_list_append PySem.F.type_list_append mt_append (pv 5) (pa_cons (pe_op op_sub (pe_callB (cr_min rfl) (by rfl) T.min (by decide +kernel) (pa_cons (pe_op op_cat (pv 5) (pe_lst (pa_cons pe_int pa_nil))) pa_nil)) pe_int) pa_nil)))
          (pss_cons (ps_if (pt_not (pt_val (pe_callG GR hr gu (by rfl) gR kR bR pass0 (pa_cons (pv 5) pa_nil)))) (pss_one (ps_ret pe_bl)) pss_nil)
          (pss_cons (ps_expr (pe_bm PySem.F.plainAttrs_list PySem.F.slot_list_append PySem.F.type_list_append mt_append (pv 5) (pa_cons (pe_op op_add (pe_callB (cr_max rfl) (by rfl) T.max (by decide +kernel) (pa_cons (pv 5) pa_nil)) pe_int) pa_nil)))
          (pss_one (ps_if (pt_not (pt_val (pe_callG GR hr gu (by rfl) gR kR bR pass0 (pa_cons (pv 5) pa_nil)))) (pss_one (ps_ret pe_bl)) pss_nil))))))))))))
      (pss_one (ps_ret (pe_cmpR (op_eqD hr.units) (pe_call GB hr (by rfl) gB kB bB .nil pass0 (pa_cons (pe_lst pa_nil) pa_nil)) (pe_lst pa_nil) (nomark _)))), ?_⟩
    refine ⟨.ref a, rfl, a, _, rfl, .inl hS, _, _, rfl, rfl, _, _, rfl, _, _, rfl, _, rfl, ?_, ?_, for_range (lo := 0)
      (fun i σ H' => ∃ y1 y2 y3 y4 y5, σ = [some (.ref a), y1, y2, y3, y4, y5] ∧ Same H H') ⟨none, none, none, none, none, rfl, Same.refl _⟩ ?_ ?_⟩
    · split <;> (try split) <;> omega
    · split <;> (try split) <;> omega
    · rintro i σ H1 hi ⟨y1, y2, y3, y4, y5, rfl, sm1⟩
      have hi8 : i ≤ 100 := by
        have z : (if (if ((ns.map V.int).length : Int) + 1 < 8 then ((ns.map V.int).length : Int) + 1 else 8) > 1 then
            (if ((ns.map V.int).length : Int) + 1 < 8 then ((ns.map V.int).length : Int) + 1 else 8) else 1 : Int) ≤ 8 := by
          split <;> (try split) <;> omega
        omega
      rw [Int.zero_add]
      refine ⟨.ref a, rfl, .int (i : Int), rfl, a, ns, i, rfl, sm1.seq hS, hi8, fun D x y nD dr => ?_⟩
      have fD : H D = none := sm1.free nD
      refine ⟨3, rfl, by decide, by decide, for_range (lo := 0) (n := 3)
        (fun t σ H' => ∃ y3 y4 y5, σ = [some (.ref a), some (.int (i : Int)), some (.ref D), y3, y4, y5] ∧ Same H H' ∧ ∃ a' b' c', H' D = some (drl a' b' c') ∧ Drm a' b' c' (500 * t))
        ⟨y3, y4, y5, rfl, same0 sm1 fD, x, y, 0, upd_same, dr⟩ ?_ ?_⟩
      · rintro t σ H2 ht ⟨z3, z4, z5, rfl, sm2, a1, b1, c1, D1, d1⟩
        rw [Int.zero_add]
        -- many
        refine ⟨(show 2 ≤ sizeLine by decide), fun l1 nl1 => ?_⟩
        refine ⟨.int (i : Int), rfl, .int (t : Int), rfl, _, _, rfl, rfl, rfl, .inr ⟨_, rfl, ?_⟩⟩
        obtain ⟨g, hg, g0, g1⟩ := b2_pick (b := decide (V.int ((i : Int) + (t : Int)) = V.int 0)) 30 148 (fun z => 0 ≤ z ∧ z ≤ 148) (by decide) (by decide)
        have s3 : Same H (upd H2 l1 (.lst [.int 30, .int 148])) := same0 sm2 (sm2.free nl1)
        have D3 : upd H2 l1 (.lst [.int 30, .int 148]) D = some (drl a1 b1 c1) := by rw [upd_ne (ne_of_none D1 nl1)]; exact D1
        refine ⟨l1, _, _, _, rfl, rfl, SqL.of upd_same, hg, (show 3 ≤ sizeLine by decide), fun l2 nl2 => ?_⟩
        generalize upd H2 l1 (.lst [.int 30, .int 148]) = H3 at s3 D3 nl2 ⊢
        have s4 : Same H (upd H3 l2 (.lst [.int 5, .int 30, .int g])) := same0 s3 (s3.free nl2)
        have D4 : upd H3 l2 (.lst [.int 5, .int 30, .int g]) D = some (drl a1 b1 c1) := by rw [upd_ne (ne_of_none D3 nl2)]; exact D3
        have e4 : upd H3 l2 (.lst [.int 5, .int 30, .int g]) l2 = some (.lst [.int 5, .int 30, .int g]) := upd_same
        have l2D : l2 ≠ D := (ne_of_none D3 nl2).symm
        generalize upd H3 l2 (.lst [.int 5, .int 30, .int g]) = H4 at s4 D4 e4 ⊢
        refine ⟨.ref D, rfl, D, 3, a1, b1, c1, 500 * t, rfl, D4, d1, by omega, by decide, by decide, fun v a2 b2 c2 h0 h1 d2 => ?_⟩
        obtain ⟨m0, hm0, hb0, hb1⟩ := pick3 5 30 g h0 h1 (fun z => 0 ≤ z ∧ z ≤ 148) (by decide) (by decide) ⟨g0, g1⟩
        have s5 : Same H (upd H4 D (drl a2 b2 c2)) := same0 s4 fD
        have D5 : upd H4 D (drl a2 b2 c2) D = some (drl a2 b2 c2) := upd_same
        refine ⟨l2, _, _, _, rfl, rfl, SqL.of (by rw [upd_ne l2D]; exact e4), hm0, ?_⟩
        generalize upd H4 D (drl a2 b2 c2) = H5 at s5 D5 ⊢
        -- numbers
        refine ⟨.ref D, rfl, .ref D, rfl, .int m0, rfl, _, _, rfl, rfl, D, m0 + 1, a2, b2, c2, 500 * t + 1, rfl, D5, d2, by omega, by omega, by omega, fun v2 a3 b3 c3 h2 h3 d3 => ?_⟩
        obtain ⟨m, rfl⟩ := Int.eq_ofNat_of_zero_le h2
        have hm : m ≤ 148 := by omega
        have s6 : Same H (upd H5 D (drl a3 b3 c3)) := same0 s5 fD
        have D6 : upd H5 D (drl a3 b3 c3) D = some (drl a3 b3 c3) := upd_same
        generalize upd H5 D (drl a3 b3 c3) = H6 at s6 D6 ⊢
        refine ⟨D, m, a3, b3, c3, 500 * t + 1 + 1, rfl, by omega, D6, d3, by omega, fun H7 p xs a4 b4 c4 nd hlen sm np bt hp D7 d4 => ?_⟩
        have fp : H p = none := s6.free np
        have pD : D ≠ p := ne_of_none D6 np
        have s7 : Same H H7 := same_but s6 fD bt
        -- the first look
        refine ⟨.ref p, rfl, p, xs, rfl, hp, nd, by omega, sm.sh, fun H8 s8 => ⟨true, rfl, iteF ?_⟩⟩
        have hp8 := s8 _ _ hp
        have D8 := s8 _ _ D7
        have s8' : Same H H8 := s7.trans s8
        refine ⟨.ref p, rfl, .inl ⟨rfl, _, SqL.of hp8⟩, .ref p, rfl, (show 1 ≤ sizeLine by decide), fun l3 nl3 => ?_⟩
        have hp9 : upd H8 l3 (.lst [.int 0]) p = some (.lst (xs.map V.int)) := by rw [upd_ne (ne_of_none hp8 nl3)]; exact hp8
        have D9 : upd H8 l3 (.lst [.int 0]) D = some (drl a4 b4 c4) := by rw [upd_ne (ne_of_none D8 nl3)]; exact D8
        have s9 : Same H (upd H8 l3 (.lst [.int 0])) := same0 s8' (s8'.free nl3)
        have e9 : upd H8 l3 (.lst [.int 0]) l3 = some (.lst [.int 0]) := upd_same
        generalize upd H8 l3 (.lst [.int 0]) = H9 at hp9 D9 s9 e9 ⊢
        refine ⟨p, l3, _, _, rfl, rfl, hp9, e9, ?_, fun l4 nl4 => ?_⟩
        · rw [List.length_map]
          show xs.length + 1 ≤ sizeLine
          unfold sizeLine; omega
        have hp10 : upd H9 l4 (.lst (xs.map V.int ++ [.int 0])) p = some (.lst (xs.map V.int)) := by rw [upd_ne (ne_of_none hp9 nl4)]; exact hp9
        have D10 : upd H9 l4 (.lst (xs.map V.int ++ [.int 0])) D = some (drl a4 b4 c4) := by rw [upd_ne (ne_of_none D9 nl4)]; exact D9
        have s10 : Same H (upd H9 l4 (.lst (xs.map V.int ++ [.int 0]))) := same0 s9 (s9.free nl4)
        have e10 : upd H9 l4 (.lst (xs.map V.int ++ [.int 0])) l4 = some (.lst ((xs ++ [0]).map V.int)) := by rw [upd_same, List.map_append]; rfl
        generalize upd H9 l4 (.lst (xs.map V.int ++ [.int 0])) = H10 at hp10 D10 s10 e10 ⊢
        refine ⟨l4, xs ++ [0], rfl, SqL.of e10, by simp, fun mn hmn hle => ?_⟩
        refine ⟨_, _, rfl, rfl, p, _, _, rfl, rfl, hp10, ?_, ?_⟩
        · rw [List.length_map]; unfold sizeLine; omega
        obtain ⟨nd1, sm1'⟩ := lower_ok nd sm hmn hle
        have hp11 : upd H10 p (.lst (xs.map V.int ++ [.int (mn - 1)])) p = some (.lst ((xs ++ [mn - 1]).map V.int)) := by rw [upd_same, List.map_append]; rfl
        have D11 : upd H10 p (.lst (xs.map V.int ++ [.int (mn - 1)])) D = some (drl a4 b4 c4) := by rw [upd_ne pD]; exact D10
        have s11 : Same H (upd H10 p (.lst (xs.map V.int ++ [.int (mn - 1)]))) := same0 s10 fp
        generalize upd H10 p (.lst (xs.map V.int ++ [.int (mn - 1)])) = H11 at hp11 D11 s11 ⊢
        have l1' : (xs ++ [mn - 1]).length ≤ 250 := by rw [List.length_append, hlen]; show m + 1 ≤ 250; omega
        -- the second look
        refine ⟨.ref p, rfl, p, xs ++ [mn - 1], rfl, hp11, nd1, by omega, (fun z hz => by have := sm1' z hz; omega), fun H12 s12 => ⟨true, rfl, iteF ?_⟩⟩
        have hp12 := s12 _ _ hp11
        have D12 := s12 _ _ D11
        have s12' : Same H H12 := s11.trans s12
        refine ⟨.ref p, rfl, .inl ⟨rfl, _, SqL.of hp12⟩, .ref p, rfl, p, xs ++ [mn - 1], rfl, SqL.of hp12, by simp, fun mx hmx hge => ?_⟩
        refine ⟨_, _, rfl, rfl, p, _, _, rfl, rfl, hp12, ?_, ?_⟩
        · rw [List.length_map]; unfold sizeLine; omega
        obtain ⟨nd2, sh2⟩ := upper_ok nd1 sm1' hmx hge
        have hp13 : upd H12 p (.lst ((xs ++ [mn - 1]).map V.int ++ [.int (mx + 1)])) p = some (.lst ((xs ++ [mn - 1] ++ [mx + 1]).map V.int)) := by rw [upd_same, List.map_append (l₁ := xs ++ [mn - 1])]; rfl
        have D13 : upd H12 p (.lst ((xs ++ [mn - 1]).map V.int ++ [.int (mx + 1)])) D = some (drl a4 b4 c4) := by rw [upd_ne pD]; exact D12
        have s13 : Same H (upd H12 p (.lst ((xs ++ [mn - 1]).map V.int ++ [.int (mx + 1)]))) := same0 s12' fp
        generalize upd H12 p (.lst ((xs ++ [mn - 1]).map V.int ++ [.int (mx + 1)])) = H13 at hp13 D13 s13 ⊢
        have l2' : (xs ++ [mn - 1] ++ [mx + 1]).length ≤ 300 := by rw [List.length_append]; show (xs ++ [mn - 1]).length + 1 ≤ 300; omega
        -- the third look
        refine ⟨.ref p, rfl, p, xs ++ [mn - 1] ++ [mx + 1], rfl, hp13, nd2, l2', sh2, fun H14 s14 => ⟨true, rfl, iteF ?_⟩⟩
        exact ⟨_, _, _, rfl, s13.trans s14, a4, b4, c4, s14 _ _ D13, d4.up (by omega)⟩
      · rintro σ H2 ⟨z3, z4, z5, rfl, sm2, _⟩
        exact ⟨_, _, _, _, _, rfl, sm2⟩
    · rintro σ H1 ⟨y1, y2, y3, y4, y5, rfl, sm1⟩
      refine ⟨Nat.zero_le _, fun l nl => ?_⟩
      refine ⟨l, [], rfl, upd_same, List.nodup_nil, Nat.zero_le _, fun H3 p qs N => ?_⟩
      have hq : qs = [] := List.eq_nil_of_length_eq_zero (by rw [N.rows.len]; rfl)
      subst hq
      refine ⟨Nat.zero_le _, fun e ne => ?_⟩
      have te : upd H3 e (.lst []) p = some (.lst []) := by rw [upd_ne (ne_of_none N.top ne)]; exact N.top
      refine ⟨dI [], dI [], dpI (ns := []) (SqL.of te), dpI (ns := []) (SqL.of upd_same), shaped_I _, shaped_I _, ?_⟩
      have eq1 : PyData.eqv (dI []) (dI []) = true := by unfold dI; rw [List.map_nil, eqv_empty]; rfl
      rw [eq1]
      exact q _
end
end My
namespace My
open PySem PySem.Spec PyProof.Rows L2

/-! what the top has written, read by name -/
theorem all_in {l : PySem.W.OpenLaw} {w : World} {K : PySem.W.Frag} {h : Heap} {mg : Str → Option Value} {fa f1 f2 f3 f4 f5 f6 f7 f8 f9 f10 f11 : Addr}
    (X : K.In h) (G : h.Ns mainGlobals mg) (hfa : mg "law" = some (.ref fa))
    {od1 an1 od2 an2 od3 an3 od4 an4 od5 an5 od6 an6 od7 an7 od8 an8 od9 an9 od10 an10 od11 an11 : Option Addr}
    {sl1 sl2 sl3 sl4 sl5 sl6 sl7 sl8 sl9 sl10 sl11 : Array (Option Value)}
    {oc1 kV1 dc1 pm1 cd1 ct1 oc2 kV2 dc2 pm2 cd2 ct2 oc3 kV3 dc3 pm3 cd3 ct3 oc4 kV4 dc4 pm4 cd4 ct4 oc5 kV5 dc5 pm5 cd5 ct5 oc6 kV6 dc6 pm6 cd6 ct6 oc7 kV7 dc7 pm7 cd7 ct7 oc8 kV8 dc8 pm8 cd8 ct8 oc9 kV9 dc9 pm9 cd9 ct9 oc10 kV10 dc10 pm10 cd10 ct10 oc11 kV11 dc11 pm11 cd11 ct11 : Value}
    (a1 : PySem.W.nsIn K mainGlobals "is_integer" = some (some (.ref f1)))
    (l1 : K.lookup f1 = some ⟨oc1, od1, .func (PySem.W.fnOf "is_integer" "is_integer" (defArgs sInt) (defBody sInt) (defScope sInt) .none kV1 dc1 pm1 an1 cd1 ct1), sl1⟩)
    (c1 : PySem.W.codeIn K cd1 "is_integer" = true) (k1 : PySem.W.keepIn K (.ref f1) = true)
    (a2 : PySem.W.nsIn K mainGlobals "is_numbers" = some (some (.ref f2)))
    (l2 : K.lookup f2 = some ⟨oc2, od2, .func (PySem.W.fnOf "is_numbers" "is_numbers" (defArgs sNums) (defBody sNums) (defScope sNums) .none kV2 dc2 pm2 an2 cd2 ct2), sl2⟩)
    (c2 : PySem.W.codeIn K cd2 "is_numbers" = true) (k2 : PySem.W.keepIn K (.ref f2) = true)
    (a3 : PySem.W.nsIn K mainGlobals "require_numbers" = some (some (.ref f3)))
    (l3 : K.lookup f3 = some ⟨oc3, od3, .func (PySem.W.fnOf "require_numbers" "require_numbers" (defArgs sReq) (defBody sReq) (defScope sReq) .none kV3 dc3 pm3 an3 cd3 ct3), sl3⟩)
    (c3 : PySem.W.codeIn K cd3 "require_numbers" = true) (k3 : PySem.W.keepIn K (.ref f3) = true)
    (a4 : PySem.W.nsIn K mainGlobals "split_blocks" = some (some (.ref f4)))
    (l4 : K.lookup f4 = some ⟨oc4, od4, .func (PySem.W.fnOf "split_blocks" "split_blocks" (defArgs sSplit) (defBody sSplit) (defScope sSplit) .none kV4 dc4 pm4 an4 cd4 ct4), sl4⟩)
    (c4 : PySem.W.codeIn K cd4 "split_blocks" = true) (k4 : PySem.W.keepIn K (.ref f4) = true)
    (a5 : PySem.W.nsIn K mainGlobals "blocks_of" = some (some (.ref f5)))
    (l5 : K.lookup f5 = some ⟨oc5, od5, .func (PySem.W.fnOf "blocks_of" "blocks_of" (defArgs sBlocks) (defBody sBlocks) (defScope sBlocks) .none kV5 dc5 pm5 an5 cd5 ct5), sl5⟩)
    (c5 : PySem.W.codeIn K cd5 "blocks_of" = true) (k5 : PySem.W.keepIn K (.ref f5) = true)
    (a6 : PySem.W.nsIn K mainGlobals "_law_drum" = some (some (.ref f6)))
    (l6 : K.lookup f6 = some ⟨oc6, od6, .func (PySem.W.fnOf "_law_drum" "_law_drum" (defArgs sDrum) (defBody sDrum) (defScope sDrum) .none kV6 dc6 pm6 an6 cd6 ct6), sl6⟩)
    (c6 : PySem.W.codeIn K cd6 "_law_drum" = true) (k6 : PySem.W.keepIn K (.ref f6) = true)
    (a7 : PySem.W.nsIn K mainGlobals "_law_spin" = some (some (.ref f7)))
    (l7 : K.lookup f7 = some ⟨oc7, od7, .func (PySem.W.fnOf "_law_spin" "_law_spin" (defArgs sSpin) (defBody sSpin) (defScope sSpin) .none kV7 dc7 pm7 an7 cd7 ct7), sl7⟩)
    (c7 : PySem.W.codeIn K cd7 "_law_spin" = true) (k7 : PySem.W.keepIn K (.ref f7) = true)
    (a8 : PySem.W.nsIn K mainGlobals "_law_numbers" = some (some (.ref f8)))
    (l8 : K.lookup f8 = some ⟨oc8, od8, .func (PySem.W.fnOf "_law_numbers" "_law_numbers" (defArgs sNumbers) (defBody sNumbers) (defScope sNumbers) .none kV8 dc8 pm8 an8 cd8 ct8), sl8⟩)
    (c8 : PySem.W.codeIn K cd8 "_law_numbers" = true) (k8 : PySem.W.keepIn K (.ref f8) = true)
    (a9 : PySem.W.nsIn K mainGlobals "_law_blocks" = some (some (.ref f9)))
    (l9 : K.lookup f9 = some ⟨oc9, od9, .func (PySem.W.fnOf "_law_blocks" "_law_blocks" (defArgs sLBlocks) (defBody sLBlocks) (defScope sLBlocks) .none kV9 dc9 pm9 an9 cd9 ct9), sl9⟩)
    (c9 : PySem.W.codeIn K cd9 "_law_blocks" = true) (k9 : PySem.W.keepIn K (.ref f9) = true)
    (a10 : PySem.W.nsIn K mainGlobals "_law_right" = some (some (.ref f10)))
    (l10 : K.lookup f10 = some ⟨oc10, od10, .func (PySem.W.fnOf "_law_right" "_law_right" (defArgs sRight) (defBody sRight) (defScope sRight) .none kV10 dc10 pm10 an10 cd10 ct10), sl10⟩)
    (c10 : PySem.W.codeIn K cd10 "_law_right" = true) (k10 : PySem.W.keepIn K (.ref f10) = true)
    (a11 : PySem.W.nsIn K mainGlobals "law" = some (some (.ref f11)))
    (l11 : K.lookup f11 = some ⟨oc11, od11, .func (PySem.W.fnOf "law" "law" (defArgs sLaw) (defBody sLaw) (defScope sLaw) .none kV11 dc11 pm11 an11 cd11 ct11), sl11⟩)
    (c11 : PySem.W.codeIn K cd11 "law" = true) (k11 : PySem.W.keepIn K (.ref f11) = true)
    (z1 : PySem.W.nsIn K mainGlobals "isinstance" = some none)
    (z2 : PySem.W.nsIn K mainGlobals "int" = some none)
    (z3 : PySem.W.nsIn K mainGlobals "bool" = some none)
    (z4 : PySem.W.nsIn K mainGlobals "list" = some none)
    (z5 : PySem.W.nsIn K mainGlobals "all" = some none)
    (z6 : PySem.W.nsIn K mainGlobals "len" = some none)
    (z7 : PySem.W.nsIn K mainGlobals "set" = some none)
    (z8 : PySem.W.nsIn K mainGlobals "max" = some none)
    (z9 : PySem.W.nsIn K mainGlobals "min" = some none)
    (z10 : PySem.W.nsIn K mainGlobals "range" = some none)
    (z11 : PySem.W.nsIn K mainGlobals "enumerate" = some none)
    (z12 : PySem.W.nsIn K mainGlobals "repr" = some none)
    : ∃ fd : FuncData, (∀ (s : Shared) (v : Value), BindsTo s fd ⟨[v], []⟩ [("script", v)]) ∧
      ∀ base : Heap, K.In base → base.Ns mainGlobals mg → FnG l.prog w K mg base 6 fa fd ["script"] (spLaw K) := by
  have e := hfa.symm.trans (PySem.W.mg_of X G a11)
  cases e
  have F1 := fun_mk (st := sInt) l1 c1 k1
  have g1 := PySem.W.mg_of X G a1
  have F2 := fun_mk (st := sNums) l2 c2 k2
  have g2 := PySem.W.mg_of X G a2
  have F3 := fun_mk (st := sReq) l3 c3 k3
  have g3 := PySem.W.mg_of X G a3
  have F4 := fun_mk (st := sSplit) l4 c4 k4
  have g4 := PySem.W.mg_of X G a4
  have F5 := fun_mk (st := sBlocks) l5 c5 k5
  have g5 := PySem.W.mg_of X G a5
  have F6 := fun_mk (st := sDrum) l6 c6 k6
  have g6 := PySem.W.mg_of X G a6
  have F7 := fun_mk (st := sSpin) l7 c7 k7
  have g7 := PySem.W.mg_of X G a7
  have F8 := fun_mk (st := sNumbers) l8 c8 k8
  have g8 := PySem.W.mg_of X G a8
  have F9 := fun_mk (st := sLBlocks) l9 c9 k9
  have g9 := PySem.W.mg_of X G a9
  have F10 := fun_mk (st := sRight) l10 c10 k10
  have g10 := PySem.W.mg_of X G a10
  have F11 := fun_mk (st := sLaw) l11 c11 k11
  have g11 := PySem.W.mg_of X G a11
  have b1 := F1.binds (ps := ["value"]) fun _ _ _ _ _ _ us hl => match us, hl with | [_], _ => rfl
  have b2 := F2.binds (ps := ["value"]) fun _ _ _ _ _ _ us hl => match us, hl with | [_], _ => rfl
  have b3 := F3.binds (ps := ["value"]) fun _ _ _ _ _ _ us hl => match us, hl with | [_], _ => rfl
  have b4 := F4.binds (ps := ["numbers"]) fun _ _ _ _ _ _ us hl => match us, hl with | [_], _ => rfl
  have b5 := F5.binds (ps := ["numbers"]) fun _ _ _ _ _ _ us hl => match us, hl with | [_], _ => rfl
  have b6 := F6.binds (ps := ["script", "k"]) fun _ _ _ _ _ _ us hl => match us, hl with | [_, _], _ => rfl
  have b7 := F7.binds (ps := ["drum", "size"]) fun _ _ _ _ _ _ us hl => match us, hl with | [_, _], _ => rfl
  have b8 := F8.binds (ps := ["drum", "many"]) fun _ _ _ _ _ _ us hl => match us, hl with | [_, _], _ => rfl
  have b9 := F9.binds (ps := ["numbers"]) fun _ _ _ _ _ _ us hl => match us, hl with | [_], _ => rfl
  have b10 := F10.binds (ps := ["numbers"]) fun _ _ _ _ _ _ us hl => match us, hl with | [_], _ => rfl
  have T : Txt mg := ⟨PySem.W.mg_none_of X G z1, PySem.W.mg_none_of X G z2, PySem.W.mg_none_of X G z3, PySem.W.mg_none_of X G z4, PySem.W.mg_none_of X G z5, PySem.W.mg_none_of X G z6, PySem.W.mg_none_of X G z7, PySem.W.mg_none_of X G z8, PySem.W.mg_none_of X G z9, PySem.W.mg_none_of X G z10, PySem.W.mg_none_of X G z11, PySem.W.mg_none_of X G z12⟩
  refine ⟨PySem.W.fnOf "law" "law" (defArgs sLaw) (defBody sLaw) (defScope sLaw) .none kV11 dc11 pm11 an11 cd11 ct11, fun s v => .of_eq rfl, fun base _ _ => ?_⟩
  have GN := ok_nums (P := l.prog) (w := w) (base := base) (k := 0) F2 T F1 g1 b1
  have GQ := ok_req (k := 2) F3 GN g2 F2.kp b2
  have GC := (ok_split (P := l.prog) (w := w) (base := base) (k := 0) F4 T).mono (show 1 ≤ 3 by decide)
  have GB := ok_blocks (k := 3) F5 GQ g3 F3.kp b3 GC g4 F4.kp b4
  have GD := (ok_drum (P := l.prog) (w := w) (base := base) (k := 0) F6 T).mono (show 1 ≤ 5 by decide)
  have GS := ok_spin (P := l.prog) (w := w) (base := base) (mg := mg) (k := 0) F7
  have GM := (ok_numbers (k := 1) F8 T GS g7 F7.kp b7).mono (show 2 ≤ 5 by decide)
  have GL := (ok_lblocks (P := l.prog) (w := w) (base := base) (k := 0) F9 T).mono (show 1 ≤ 4 by decide)
  have GR := ok_right (k := 4) F10 T GB g5 F5.kp b5 GL g9 F9.kp b9
  exact ok_law (k := 5) F11 T (GB.mono (show 4 ≤ 5 by decide)) g5 F5.kp b5 GD g6 F6.kp b6 (GS.mono (show 1 ≤ 5 by decide)) g7 F7.kp b7 GM g8 F8.kp b8 GR g10 F10.kp b10
end My
open PySem PySem.W PyProof.Rows
set_option maxHeartbeats 0 in
theorem PySem.Challenge.cw_leastheads_k02_blocks_of_numbers_holds : PySem.Challenge.rw_leastheads_k02_blocks_of_numbers.Holds := by
  w_on; o_law; k_head; (case hw => w_witness2)
  k_fill
  refine My.walkG (l := PySem.Challenge.rw_leastheads_k02_blocks_of_numbers) (n := 63) (k := 6) (x := "script") (sp := fun w => My.spLaw _) rfl (by decide) rfl ⟨rfl, by decide, by decide⟩ (fun w h Y => PySem.W.kIn_of Y) ?F
    (fun _ _ a ns hl _ hS => ⟨a, ns, rfl, hS, hl, fun _ => rfl⟩)
  case F =>
    intro w mg fa h KX G hmg
    refine' My.all_in KX G hmg ?a1 ?l1 ?c1 ?k1 ?a2 ?l2 ?c2 ?k2 ?a3 ?l3 ?c3 ?k3 ?a4 ?l4 ?c4 ?k4 ?a5 ?l5 ?c5 ?k5 ?a6 ?l6 ?c6 ?k6 ?a7 ?l7 ?c7 ?k7 ?a8 ?l8 ?c8 ?k8 ?a9 ?l9 ?c9 ?k9 ?a10 ?l10 ?c10 ?k10 ?a11 ?l11 ?c11 ?k11 ?z1 ?z2 ?z3 ?z4 ?z5 ?z6 ?z7 ?z8 ?z9 ?z10 ?z11 ?z12
    (case a1 => k_is); (case l1 => k_is); (case c1 => k_is); (case k1 => k_is); (case a2 => k_is); (case l2 => k_is); (case c2 => k_is); (case k2 => k_is)
    (case a3 => k_is); (case l3 => k_is); (case c3 => k_is); (case k3 => k_is); (case a4 => k_is); (case l4 => k_is); (case c4 => k_is); (case k4 => k_is)
    (case a5 => k_is); (case l5 => k_is); (case c5 => k_is); (case k5 => k_is); (case a6 => k_is); (case l6 => k_is); (case c6 => k_is); (case k6 => k_is)
    (case a7 => k_is); (case l7 => k_is); (case c7 => k_is); (case k7 => k_is); (case a8 => k_is); (case l8 => k_is); (case c8 => k_is); (case k8 => k_is)
    (case a9 => k_is); (case l9 => k_is); (case c9 => k_is); (case k9 => k_is); (case a10 => k_is); (case l10 => k_is); (case c10 => k_is); (case k10 => k_is)
    (case a11 => k_is); (case l11 => k_is); (case c11 => k_is); (case k11 => k_is); (case z1 => k_is); (case z2 => k_is); (case z3 => k_is); (case z4 => k_is)
    (case z5 => k_is); (case z6 => k_is); (case z7 => k_is); (case z8 => k_is); (case z9 => k_is); (case z10 => k_is); (case z11 => k_is); (case z12 => k_is)
