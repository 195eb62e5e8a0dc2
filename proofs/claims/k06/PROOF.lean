import PyProof.Rows.All
import Wide.All
import OpenK.AllK
import Wide.FinOn
import HandS.ForMost
import HandS.Style
import HandS.Zip
import HandS.Wide
import HandS.IsInst
import HandS.RaiseMore
import PyProof.ReprRoads
import PyProof.EqAt
import HandS.Ends
import HandS.Lambda
import HandS.EndBits
import KE.SortKeyHeap
import KE.SortData
import PyProof.Rows.SortShellAny
import PyProof.ListRange
import HandS.Sort
import HandS.SetFor
import HandS.Strs
import HandS.Deep
import PySem.Challenge.RW_leastheads_k06_whole_blocks_of_results
set_option Elab.async false
set_option linter.all false
set_option maxRecDepth 100000
namespace My
open PySem PySem.Spec PyProof.Rows L2

/-! powers of great numbers -/
def CPw (i j : Int) : Prop := 0 ≤ j ∧ j ≤ 1000 ∧ i.natAbs.log2 < 100000
theorem op_pw {X : Cx} : OpR X (binaryOp .Pow) (rI CPw fun i j => .int (i ^ j.toNat)) :=
  opI fun i j _ _ _ _ _ hc q => by
    obtain ⟨h0, h1, h2⟩ := hc
    refine pow_int h0 ?_ q
    have hb : Builtin.Int.intBits i ≤ i.natAbs.log2 + 1 := by
      unfold Builtin.Int.intBits
      split <;> omega
    have hb2 : (Builtin.Int.intBits i : Int) ≤ 100000 := by omega
    calc (Builtin.Int.intBits i : Int) * j ≤ 100000 * j := Int.mul_le_mul_of_nonneg_right hb2 h0
      _ ≤ 2 ^ 27 := by omega
theorem pw_ok {i j : Int} {b : Nat} (h0 : 0 ≤ j) (h1 : j ≤ 1000) (hb : i.natAbs < 2 ^ b) (hp : 0 < b) (hl : b ≤ 100000) : CPw i j := by
  have z := PySem.Flt.log2_lt_of hp hb
  exact ⟨h0, h1, by omega⟩
/-! repr of data -/
def rRep (K : PySem.W.Frag) : List V → Hp → VK → Prop := fun vs H Q => ∃ (a : Addr) (d : PyData), vs = [.ref a] ∧ Dp K H (.ref a) d ∧
  d.showable = true ∧ d.hasDict = false ∧ d.shown.length ≤ sizeLine ∧ d.depth ≤ 60 ∧ Q (.str d.shown) H
theorem cr_rep {X : Cx} (hg : X.A.guards = some []) (hu : X.A.units + 100 < cLine) : CallR X (.builtin "repr") (rRep X.K) := by
  intro pins s sg H xs us Q I rv h
  obtain ⟨a, d, rfl, hd, hs, hn, hz, hdp, q⟩ := h
  obtain ⟨u, rfl, ru⟩ := rv.one
  have ru' : u = Value.ref a := ru
  subst ru'
  obtain ⟨bs, r⟩ := Dp.reads I d _ _ hd (show RelV (.ref a) (Value.ref a) from rfl)
  refine repr_of_reads' (h₀ := s.heap) r hs (fun e => by rw [hn] at e; cases e) hg (by omega) (fun _ _ e => e) (fun h' u tk hk => ?_) hz
  exact ⟨.str d.shown, H, I.kept hk, ⟨u, rfl⟩, q⟩
end My
namespace My
open PySem PySem.Spec PyProof.Rows L2

/-! defs that are called where no repr runs: their promise knows it -/
structure FnG (P : Program) (w : World) (K : PySem.W.Frag) (mg : Str → Option Value) (base : Heap) (k : Nat) (f : Addr) (fd : FuncData)
    (ps : List Str) (sp : Sp) : Prop where
  len : ∀ vs H Q E, sp vs H Q E → vs.length = ps.length
  run : ∀ (A : Around) (outer : List Env) (s : Shared) (H : Hp) (args : Args) (us : List Value) (vs : List V) (Q : VK) (E : XK),
    Room k A → A.guards = some [] → Env0 P w K mg base A outer s H → BindsTo s fd args (ps.zip us) → Vals vs us → sp vs H Q E →
    codeAny (model P w) A (.call (.ref f) args) (CR CX0 outer P w H s Q E) s

theorem okG {P : Program} {w : World} {K : PySem.W.Frag} {mg : Str → Option Value} {base : Heap} {x qual : Str} {st : Stmt} {f : Addr}
    {fd : FuncData} {N ps : List Str} {k : Nat} {sp : Sp} (F : Fun K x qual st f fd) (S : FnScope N ps (defScope st))
    (len : ∀ vs H Q E, sp vs H Q E → vs.length = ps.length)
    (body : ∀ (cdv : Value) (A : Around) (outer : List Env) (s : Shared) (H : Hp) (vs : List V) (Q : VK) (E : XK), A.guards = some [] →
      Room k (A.deeper (envOfC qual (defScope st) s.heap.objs.size f cdv)) → sp vs H Q E →
      ∃ t, PSs (cxOf CX0 P w K mg base N qual (defScope st) f cdv A outer s H E).nox (defBody st) t ∧
        t { nx := fun _ H' => Q .non H', rt := Q } (start N vs) H) : FnG P w K mg base (k + 1) f fd ps sp := by
  obtain ⟨oc, od, kV, doc, pm, an, cdv, ct, osl, rfl, lk, hcd⟩ := F.ex
  refine ⟨len, ?_⟩
  intro A outer s H args us vs Q E room gu en bi rv want
  have hlen := len vs H Q E want
  have KI : K.In s.heap := en.mod.kin.keeps (fun b o e => (en.bs b o e).1)
  have NL : s.heap.NoLimit := en.mod.nolimit.keeps (fun b o e => (en.bs b o e).1)
  have kinds : ∀ y ∈ ps.zip us, (defScope st).names.lookup y.1 = some .local ∨
      ((defScope st).names.lookup y.1 = some .cell ∧ ((cellsFrom (s.heap.objs.size + 1) (defScope st).names []).lookup y.1).isSome = true) := by
    rintro ⟨n, v⟩ hy
    rcases S.par n (List.of_mem_zip hy).1 with z | z
    · exact Or.inl z
    · exact Or.inr ⟨z, PySem.W.cellsFrom_some _ _ _ (Or.inl z)⟩
  refine codeAny_call_function room.depth (KI _ _ lk) rfl S.co S.gen rfl (PySem.W.codeRec_of KI hcd) (bi _ _ _ _ ?_)
  refine wpAny_newFunctionEnv_cells S.kind kinds (fun env he s1 x1 => ?_)
  subst he
  refine ⟨NL.keeps x1.toInCall.keep, codeAny_func ?_⟩
  obtain ⟨t, ht, hq⟩ := body cdv A outer s H vs Q E gu (room.deeper _) want
  have J0 := inv_start (CX := CX0) (E := E) (qual := qual) S room.hd en hlen rv x1
  refine wpAny_mono (ht.nox.run [] s1 (start N vs) H _ J0 hq) ?_ (fun e s' z => z)
  intro fl s' z
  cases fl with
  | next =>
    obtain ⟨sg, H', J, q⟩ := z
    exact ⟨.non, H', J.os, J.bare, J.base, J.hok, rfl, q⟩
  | ret u =>
    obtain ⟨v, sg, H', J, r1, q⟩ := z
    exact ⟨v, H', J.os, J.bare, J.base, J.hok, r1, q⟩
  | brk => exact z.elim fun _ z => z.elim fun _ z => False.elim z.2
  | cont => exact z.elim fun _ z => z.elim fun _ z => False.elim z.2

section
variable {X : Cx} {k : Nat} {f : Addr} {fd : FuncData} {ps : List Str} {sp : Sp} {E : XK}
theorem pe_callG {x : Str} {p pos : Pos} {e : Expr} {es : List Expr} {t : TA} (F : FnG X.prog X.w X.K X.mg X.base k f fd ps sp) (room : Room k X.A)
    (gu : X.A.guards = some []) (gl : Gl X x) (hm : X.mg x = some (.ref f)) (kp : PySem.W.keepIn X.K (.ref f) = true) (bi : Binds X.K fd ps [])
    (pa : Passes CX0 X E) (ha : PA X (e :: es) t) (hdb : (x == ("__debug__" : Str)) = false := by decide)
    (he : starEach (e :: es) X.env = (false, eval e X.env) :: starEach es X.env := by rfl)
    (hpl : (backTo pos (starEach es X.env)).any (·.1) = false := by rfl) : PE X (.Call (.Name x p) (e :: es) [] pos) (tCall sp [] E t) := by
  refine ⟨fun pins s sg H Q I want => ?_⟩
  refine wpAny_Call_Name_kw (ld_glob I gl hm ?_ hdb)
  refine PySem.W.callWith_K (h₀ := X.base) I.ok.mod.kin kp (thn (ha.run pos pins s sg H _ I want) ?_) he hpl
  rintro us s1 ⟨vs, H1, I1, rv, q⟩
  refine ⟨I1.kIn, ?_⟩
  have q' : sp vs H1 Q E := by
    have z := q
    rw [List.append_nil] at z
    exact z
  have hl : (us ++ []).length = ps.length := by
    rw [List.append_nil, ← rv.length]
    exact F.len _ _ _ _ q'
  have bt := bi s1 us I1.kIn hl
  rw [List.append_nil] at bt
  refine wpAny_call (codeAny_mono (F.run X.A X.stack s1 H1 ⟨us, []⟩ us vs Q E room gu I1.env0 bt rv q') ?_)
  intro r s' z
  cases r with
  | error e => exact pa pins sg H1 s1 e s' I1 z
  | ok fl =>
    cases fl with
    | ret u => exact I1.after z
    | next => exact False.elim z
    | brk => exact False.elim z
    | cont => exact False.elim z
end

/-! the law's own end over such a promise -/
theorem endG {P : Program} {w : World} {K : PySem.W.Frag} {mg mb : Str → Option Value} {k : Nat} {fa a : Addr} {fd : FuncData} {x : Str} {sp : Sp}
    {s1 : Shared} {us : List Value} {ns : List Int} (KX : K.In s1.heap) (hns : s1.heap.Ns mainGlobals mg) (hb : s1.heap.Ns builtinsNs mb)
    (hbb : ∀ x : Str, x ≠ "__name__" → mb x = bootBuiltins x) (hlim : s1.heap.NoLimit) (hg : s1.gens = #[])
    (ha : s1.heap.get? a = some { cls := .type "list", data := .seq us.toArray }) (hi : IntsAre us ns) (hl : ns.length ≤ sizeLine)
    (room : Room k callerA) (F : ∀ base : Heap, K.In base → base.Ns mainGlobals mg → FnG P w K mg base k fa fd [x] sp)
    (bi : ∀ (s : Shared) (u : Value), BindsTo s fd ⟨[u], []⟩ [(x, u)])
    (want : ∀ H : Hp, Only H → SqL K H a (ns.map V.int) → sp [.ref a] H (fun v _ => v = .bl true) fun _ _ _ => False) :
    codeAny (model P w) callerA (.call (.ref fa) ⟨[.ref a], []⟩)
      (fun r s' => r = .ok (.ret (.bool true)) ∧ OldK s1.heap s'.heap ∧ s'.os = s1.os ∧ AllBare s'.gens) s1 := by
  have rv := vals_ints hi
  have main : ∀ H : Hp, Only H → SqL K H a (ns.map V.int) → HOk P w H s1.heap → (∀ b, H b ≠ none → b = a) → (H a ≠ none → K.lookup a = none) →
      codeAny (model P w) callerA (.call (.ref fa) ⟨[.ref a], []⟩)
        (fun r s' => r = .ok (.ret (.bool true)) ∧ OldK s1.heap s'.heap ∧ s'.os = s1.os ∧ AllBare s'.gens) s1 := by
    intro H only hS hok hA hK
    have dictFree : ∀ {b : Addr} {o : Obj} {es : Array DictEntry} {ep : Nat}, s1.heap.get? b = some o → o.data = .dict es ep → H b = none := by
      intro b o es ep e d
      by_cases z : H b = none
      · exact z
      · have e' := hA b z
        rw [e', ha] at e
        cases e
        cases (show Data.seq us.toArray _ = Data.dict es ep from d)
    have over : ∀ {b : Addr} {m : Str → Option Value}, s1.heap.Ns b m → (hidT s1.heap H).Ns b m := by
      rintro b m ⟨o, es, ep, e, d, r⟩
      exact ⟨o, es, ep, hidT_get e (dictFree e d), d, r⟩
    have KB : K.In (hidT s1.heap H) := by
      intro b o e
      refine hidT_get (KX b o e) ?_
      by_cases z : H b = none
      · exact z
      · have e' := hA b z
        rw [e'] at z e
        rw [hK z] at e
        cases e
    have M : Mod K mg (hidT s1.heap H) := by
      obtain ⟨mc, l1, l2⟩ := hlim
      exact ⟨KB, over hns, ⟨mb, over hb, hbb⟩, ⟨mc, over l1, l2⟩⟩
    have E0' : Env0 P w K mg (hidT s1.heap H) callerA [] s1 H :=
      ⟨rfl, M, fun b o e => of_hidT e, Nat.le_of_eq (hidT_size _ _), trivial, (fun b hb => nomatch (show b ∈ ([] : List Addr) from hb)), hok, .of_eq hg⟩
    refine codeAny_mono ((F _ KB (over hns)).run callerA [] s1 H ⟨[.ref a], []⟩ [.ref a] [.ref a] _ _ room rfl E0' (bi s1 (.ref a)) (.cons rfl .nil) (want H only hS)) ?_
    intro r s' z
    cases r with
    | error e => exact False.elim z
    | ok fl =>
      cases fl with
      | next => exact False.elim z
      | brk => exact False.elim z
      | cont => exact False.elim z
      | ret u =>
        obtain ⟨v, H', os, bare, un, hok2, r1, q⟩ := z
        have q1 : v = .bl true := q
        subst q1
        have q2 : u = Value.bool true := r1
        subst q2
        refine ⟨rfl, OldK.of_keep ?_, os, bare⟩
        intro b o e
        rcases only b with n | ⟨ob, xs, n⟩
        · exact un.keep b o e n (fun y => nomatch (show b ∈ ([] : List Addr) from y)) (fun y => nomatch y)
        · obtain ⟨e1, _⟩ := hok b _ n
          obtain ⟨e2, _⟩ := hok2 b _ (un.frzs b ob _ n)
          rw [e] at e1
          cases e1
          exact e2
  cases hk : K.lookup a with
  | some o =>
    have e := KX a o hk
    rw [ha] at e
    cases e
    refine main (fun _ => none) (fun _ => Or.inl rfl) (Or.inr ⟨_, us.toArray, _, hk, rfl, rfl, rfl, ?_, ?_⟩) ?_ ?_ ?_
    · rw [List.size_toArray, hi.length]; exact hl
    · simpa using rv
    · intro b u z; cases z
    · intro b z; exact absurd rfl z
    · intro z; exact absurd rfl z
  | none =>
    have at_a : (fun b => if b = a then some (HO.frz { cls := .type "list", data := .seq us.toArray } (.lst (ns.map V.int))) else none : Hp) a
      = some (HO.frz { cls := .type "list", data := .seq us.toArray } (.lst (ns.map V.int))) := if_pos rfl
    have off : ∀ b, b ≠ a → (fun b => if b = a then some (HO.frz { cls := .type "list", data := .seq us.toArray } (.lst (ns.map V.int))) else none : Hp) b = none :=
      fun b z => if_neg z
    refine main (fun b => if b = a then some (HO.frz { cls := .type "list", data := .seq us.toArray } (.lst (ns.map V.int))) else none) ?_ (Or.inl (Or.inr ⟨_, at_a⟩)) ?_ ?_ (fun _ => hk)
    · intro b
      by_cases z : b = a
      · subst z; exact Or.inr ⟨_, _, at_a⟩
      · exact Or.inl (off b z)
    · intro b u z
      by_cases y : b = a
      · subst y
        rw [at_a] at z
        cases z
        exact ⟨ha, by rw [List.length_map]; exact hl, us, _, rv, ha⟩
      · rw [off b y] at z; cases z
    · intro b z
      by_cases y : b = a
      · exact y
      · exact absurd (off b y) z

theorem walkG {l : PySem.W.OpenLaw} {n k : Nat} {q : Program} {loose : List Str} {XP : (Str → Option Value) → Heap → Prop} {YP : World → Heap → Prop}
    {d : DefRec} {K : Params → PySem.W.Frag} {sp : World → Sp} {x : Str} (hn : l.most = some n) (hn2 : n ≤ sizeLine) (hdf : d.params.defaults = [])
    (room : Room k callerA) (hY : ∀ (w : World) (h : Heap), YP w h → (K w.params).In h)
    (F : ∀ (w : World) (mg : Str → Option Value) (fa : Addr) (h : Heap), (K w.params).In h → h.Ns mainGlobals mg → mg d.name = some (.ref fa) →
      ∃ fd : FuncData, (∀ (s : Shared) (u : Value), BindsTo s fd ⟨[u], []⟩ [(x, u)]) ∧
        ∀ base : Heap, (K w.params).In base → base.Ns mainGlobals mg → FnG l.prog w (K w.params) mg base k fa fd [x] (sp w))
    (want : ∀ (w : World) (H : Hp) (a : Addr) (ns : List Int), ns.length ≤ n → Only H → SqL (K w.params) H a (ns.map V.int) →
      sp w [.ref a] H (fun v _ => v = .bl true) fun _ _ _ => False) :
    PySem.W.WalkO q loose XP YP l.row.toRowW d [] (fun f vs => PySem.call f vs) := by
  refine Att.attach_call hn hdf ?_
  intro w s0 s1 mg mb fa o pm cd doc a us ns G Y ho hd hcd hmg hobj hints hlen hg
  have KX := hY w _ Y
  obtain ⟨fd, b1, b2⟩ := F w mg fa _ KX G.T.g hmg
  exact endG KX G.T.g G.T.b G.T.builtins G.T.nolimit hg hobj hints (Nat.le_trans hlen hn2) room b2 b1 (fun H only hS => want w H a ns hlen only hS)
end My
namespace My
open PySem PySem.Spec PyProof.Rows L2

/-! l[a:c] = another list -/
def gSlc (to : TE) (tl th : TO) : TG := fun v sg H Q => to sg H fun o H1 => tl sg H1 fun lo H2 => th sg H2 fun hi H3 =>
  ∃ (l b : Addr) (xs ys : List V) (a c : Int), o = .ref l ∧ v = .ref b ∧ lo = some a ∧ hi = some c ∧ H3 l = some (.lst xs) ∧ H3 b = some (.lst ys) ∧ l ≠ b ∧
    0 ≤ a ∧ a ≤ c ∧ c ≤ xs.length ∧ xs.length + ys.length ≤ sizeLine ∧ Q sg (upd H3 l (.lst (xs.take a.toNat ++ ys ++ xs.drop c.toNat)))
theorem pg_slc {X : Cx} {o : Expr} {lo hi : Option Expr} {p2 pos : Pos} {to : TE} {tl th : TO} (ho : PE X o to) (hl : PO X lo tl) (hh : PO X hi th)
    (ha : ∀ v, assign (.Subscript o (.Slice lo hi none p2) pos) X.env v = (do
      let ov ← holding [v] (eval o X.env)
      let iv ← holding [v, ov] (eval (.Slice lo hi none p2) X.env)
      standAt pos
      holding [v, ov, iv] (setItem ov iv v)
      release [iv, v, ov] []) := by intro _; rfl) : PG X (.Subscript o (.Slice lo hi none p2) pos) (gSlc to tl th) := by
  refine ⟨fun pins s sg H v u Q I r want => ?_⟩
  rw [ha]
  refine wpAny_bind (wpAny_holding (thn (ho.run pins s sg H _ I want) ?_))
  rintro ov s1 ⟨x, H1, I1, r1, q1⟩
  refine wpAny_bind (wpAny_holding (wpAny_Slice (thn (hl.run pins s1 sg H1 _ I1 q1) ?_)))
  rintro vl s2 ⟨la, H2, I2, pl, q2⟩
  refine thn (hh.run pins s2 sg H2 _ I2 q2) ?_
  rintro vu s3 ⟨ua, H3, I3, pu, q3⟩
  rw [evalPart_none]
  refine wpAny_pure ?_
  have I4 : Inv X pins sg H3 { s3 with heap := s3.heap.push { cls := .type "slice", data := .fields #[vl, vu, .none] } } :=
    I3.kept (t' := s3.toks) (fun b ob q => Heap.get?_push_of_some _ q)
  obtain ⟨l, b, xs, ys, a, c, rfl, rfl, rfl, rfl, hx, hy, ne, h0, h1, h2, hz, q⟩ := q3
  have e1 : ov = Value.ref l := r1
  have e2 : u = Value.ref b := r
  subst e1 e2
  have ra : RelV (.int a) vl := by cases pl; exact ⟨_, rfl⟩
  have rc : RelV (.int c) vu := by cases pu; exact ⟨_, rfl⟩
  refine wpAny_bind (wpAny_standAt (wpAny_bind (wpAny_holding ?_)))
  refine set_slice I4 hx hy ne (Heap.IsSliceOf.new ..) ra rc h0 h1 h2 hz (fun s5 I5 => ?_)
  exact wpAny_release ⟨sg, _, I5, q⟩

/-! l.count(x) where the items and x are data -/
def rCnt (K : PySem.W.Frag) : V → List V → Hp → VK → Prop := fun x xs H Q => ∃ (a : Addr) (y : V) (d : PyData) (ds : List PyData), x = V.ref a ∧ xs = [y] ∧
  Dp K H (V.ref a) (.list ds) ∧ Dp K H y d ∧ SeqAt.shaped (.list ds) = true ∧ SeqAt.shaped d = true ∧ Q (.int (ds.countP (fun z => PyData.eqv z d) : Nat)) H
theorem mt_cnt {X : Cx} (hu : X.A.units + 65 < cLine) : MtR X "list.count" (rCnt X.K) := by
  intro pins s sg H x xs v us Q I rx rxs want
  obtain ⟨a, y, d, ds, rfl, rfl, hl, hy, sl, sd, q⟩ := want
  have e1 : v = Value.ref a := rx
  subst e1
  obtain ⟨uy, rfl, ry⟩ := rxs.one
  obtain ⟨bs, r1⟩ := Dp.reads I d y uy hy ry
  have lay : PyData.canLayAll0 ds = true := SeqAt.canLay_of_shaped sl
  cases hl with
  | lst hs hall =>
    obtain ⟨its, rv, ⟨⟨cls, dd, data, sls⟩, n, ho, hc, hdn, hdt⟩, hlen⟩ := I.list hs
    simp only at hc hdt
    subst hc hdt
    obtain ⟨as, r2⟩ := Dp.readsAll I ds _ its hall rv
    have mp : its.map (SeqAt.readOf s.heap) = ds := SeqAt.readsAll_map ds its as lay r2
    refine call_meets PySem.F.slot_list_count ⟨_, ho, rfl⟩ PySem.F.entry_list_count (PySem.F.args_list_count_2 _ _)
      (SeqAt.list_countAt a its.toArray n dd sls uy (fun u => PyData.eqv (SeqAt.readOf s.heap u) d))
      ⟨ho, SeqAt.items_eqAt (vs := its.toArray) (show ReadsAll s.heap its.toArray.toList ds as from r2) r1 lay (SeqAt.canLay_of_shaped sd) (room_in_shaped sd hu), ?_⟩
    refine ⟨.int (ds.countP (fun z => PyData.eqv z d) : Nat), H, I.tok _, ⟨s.toks, ?_⟩, q⟩
    rw [← mp, List.countP_map]
    rfl
end My
namespace My
open PySem PySem.Spec PyProof.Rows L2

/-! heaps -/
theorem same0 {H H' : Hp} {p : Addr} {o : HO} (sm : Same H H') (n : H p = none) : Same H (upd H' p o) := fun b u e => by
  rw [upd_ne (ne_of_none e n)]
  exact sm b u e
theorem sameN {H : Hp} {p : Addr} {o : HO} (n : H p = none) : Same H (upd H p o) := same0 (Same.refl H) n

/-- at the addresses qs stand lists with the rows bs -/
structure Rws (H : Hp) (qs : List Addr) (bs : List (List V)) : Prop where
  len : qs.length = bs.length
  nd : qs.Nodup
  get : ∀ (j : Nat) (q : Addr) (b : List V), qs[j]? = some q → bs[j]? = some b → H q = some (.lst b)
theorem Rws.nil {H : Hp} : Rws H [] [] := ⟨rfl, List.nodup_nil, fun j q b e => by simp at e⟩
theorem Rws.off {H : Hp} {qs : List Addr} {bs : List (List V)} (R : Rws H qs bs) {p : Addr} {o : HO} (n : p ∉ qs) : Rws (upd H p o) qs bs :=
  ⟨R.len, R.nd, fun j q b e1 e2 => by
    have ne : q ≠ p := fun z => n (by rw [← z]; exact List.mem_of_getElem? e1)
    rw [upd_ne ne]
    exact R.get j q b e1 e2⟩
theorem Rws.same {H H' : Hp} {qs : List Addr} {bs : List (List V)} (R : Rws H qs bs) (s : Same H H') : Rws H' qs bs :=
  ⟨R.len, R.nd, fun j q b e1 e2 => s _ _ (R.get j q b e1 e2)⟩
theorem Rws.at' {H : Hp} {qs : List Addr} {bs : List (List V)} (R : Rws H qs bs) {q : Addr} (h : q ∈ qs) : ∃ (j : Nat) (b : List V), qs[j]? = some q ∧ bs[j]? = some b ∧ H q = some (.lst b) := by
  obtain ⟨j, hj⟩ := List.mem_iff_getElem?.mp h
  have hl : j < bs.length := by rw [← R.len]; exact (List.getElem?_eq_some_iff.mp hj).1
  exact ⟨j, bs[j], hj, List.getElem?_eq_getElem hl, R.get _ _ _ hj (List.getElem?_eq_getElem hl)⟩
theorem Rws.there {H : Hp} {qs : List Addr} {bs : List (List V)} (R : Rws H qs bs) {q : Addr} (h : q ∈ qs) : H q ≠ none := by
  obtain ⟨j, b, _, _, e⟩ := R.at' h
  rw [e]; exact fun z => nomatch z
theorem Rws.push {H : Hp} {qs : List Addr} {bs : List (List V)} (R : Rws H qs bs) {p : Addr} {b : List V} (n : H p = none) : Rws (upd H p (.lst b)) (qs ++ [p]) (bs ++ [b]) := by
  have np : p ∉ qs := fun h => R.there h n
  refine ⟨by rw [List.length_append, List.length_append, R.len]; rfl, ?_, ?_⟩
  · refine List.nodup_append.mpr ⟨R.nd, by simp, ?_⟩
    intro x hx y hy e
    have e2 : y = p := by simpa using hy
    exact np (e2 ▸ e ▸ hx)
  · intro j q c e1 e2
    rcases Nat.lt_or_ge j qs.length with z | z
    · rw [List.getElem?_append_left z] at e1
      rw [List.getElem?_append_left (R.len ▸ z)] at e2
      exact (R.off np).get j q c e1 e2
    · rw [List.getElem?_append_right z] at e1
      rw [List.getElem?_append_right (R.len ▸ z), ← R.len] at e2
      cases hk : j - qs.length with
      | zero =>
        rw [hk] at e1 e2
        cases e1
        cases e2
        exact upd_same
      | succ m =>
        rw [hk] at e1
        simp at e1
theorem Rws.put {H : Hp} {qs : List Addr} {bs : List (List V)} (R : Rws H qs bs) {j : Nat} {q : Addr} {b : List V} (e : qs[j]? = some q) : Rws (upd H q (.lst b)) qs (bs.set j b) := by
  refine ⟨by rw [List.length_set]; exact R.len, R.nd, ?_⟩
  intro i r c e1 e2
  by_cases z : i = j
  · subst z
    rw [e] at e1
    cases e1
    have hl : i < bs.length := by rw [← R.len]; exact (List.getElem?_eq_some_iff.mp e).1
    rw [List.getElem?_set_self hl] at e2
    cases e2
    exact upd_same
  · rw [List.getElem?_set_ne (fun y => z y.symm)] at e2
    have ne : r ≠ q := fun y => z (nd_ix R.nd (y ▸ e1) e)
    rw [upd_ne ne]
    exact R.get i r c e1 e2

/-! blocks -/
def put (bs : List (List Int)) (n : Int) : List (List Int) :=
  match bs.getLast? with
  | none => [[n]]
  | some l => if l.headD 0 < n then bs ++ [[n]] else bs.dropLast ++ [l ++ [n]]
def cut (ns : List Int) : List (List Int) := ns.foldl put []
theorem cut_snoc (ns : List Int) (n : Int) : cut (ns ++ [n]) = put (cut ns) n := by
  unfold cut
  rw [List.foldl_append]
  rfl
theorem put_nil (n : Int) : put [] n = [[n]] := rfl
theorem put_snoc (ini : List (List Int)) (l : List Int) (n : Int) : put (ini ++ [l]) n = if l.headD 0 < n then (ini ++ [l]) ++ [[n]] else ini ++ [l ++ [n]] := by
  unfold put
  rw [List.getLast?_concat, List.dropLast_concat]
/-- what holds of the blocks of ns -/
structure Good (ns : List Int) (bs : List (List Int)) : Prop where
  flat : bs.flatten = ns
  ne : ∀ b ∈ bs, b ≠ []
  last : bs = [] ∨ ∃ ini x r, bs = ini ++ [x :: r] ∧ x ∈ ns ∧ ∀ y ∈ ns, y ≤ x
theorem good_step {ns : List Int} {bs : List (List Int)} (G : Good ns bs) (n : Int) : Good (ns ++ [n]) (put bs n) := by
  rcases G.last with e | ⟨ini, x, r, e, hx, hm⟩
  · subst e
    have e2 : ns = [] := by rw [← G.flat]; rfl
    subst e2
    exact ⟨rfl, by simp [put_nil], Or.inr ⟨[], n, [], rfl, by simp, by simp⟩⟩
  · subst e
    rw [put_snoc]
    by_cases h : (x :: r).headD 0 < n
    · rw [if_pos h]
      have h' : x < n := h
      refine ⟨by rw [List.flatten_append, G.flat]; rfl, ?_, Or.inr ⟨ini ++ [x :: r], n, [], rfl, by simp, ?_⟩⟩
      · intro b hb
        rcases List.mem_append.mp hb with z | z
        · exact G.ne b z
        · have : b = [n] := by simpa using z
          rw [this]; simp
      · intro y hy
        rcases List.mem_append.mp hy with z | z
        · have := hm y z; omega
        · have : y = n := by simpa using z
          omega
    · rw [if_neg h]
      have h' : ¬ x < n := h
      refine ⟨?_, ?_, Or.inr ⟨ini, x, r ++ [n], rfl, List.mem_append_left _ hx, ?_⟩⟩
      · have f := G.flat
        rw [List.flatten_append] at f ⊢
        rw [← f]
        simp
      · intro b hb
        rcases List.mem_append.mp hb with z | z
        · exact G.ne b (List.mem_append_left _ z)
        · have : b = x :: r ++ [n] := by simpa using z
          rw [this]; simp
      · intro y hy
        rcases List.mem_append.mp hy with z | z
        · exact hm y z
        · have : y = n := by simpa using z
          omega
theorem good_from : ∀ (rest pre : List Int), Good pre (cut pre) → Good (pre ++ rest) (cut (pre ++ rest))
  | [], pre, h => by rw [List.append_nil]; exact h
  | n :: rest, pre, h => by
    have h2 := good_step h n
    rw [← cut_snoc] at h2
    have h3 := good_from rest (pre ++ [n]) h2
    rw [List.append_assoc] at h3
    exact h3
theorem good_cut (ns : List Int) : Good ns (cut ns) := good_from ns [] ⟨rfl, by simp [cut], Or.inl rfl⟩
theorem cut_take {ns : List Int} {i : Nat} {n : Int} (h : ns[i]? = some n) : cut (ns.take (i + 1)) = put (cut (ns.take i)) n := by
  rw [List.take_add_one, h]
  exact cut_snoc _ _
theorem flat_len : ∀ {bs : List (List Int)}, (∀ b ∈ bs, b ≠ []) → bs.length ≤ bs.flatten.length
  | [], _ => Nat.zero_le _
  | b :: bs, h => by
    have ih := flat_len (bs := bs) fun c hc => h c (List.mem_cons_of_mem _ hc)
    have hb := h b (List.mem_cons_self ..)
    cases b with
    | nil => exact absurd rfl hb
    | cons x r =>
      rw [List.flatten_cons, List.length_append, List.length_cons, List.length_cons]
      omega
theorem flat_mem_len : ∀ {bs : List (List Int)} {b : List Int}, b ∈ bs → b.length ≤ bs.flatten.length
  | c :: bs, b, h => by
    rw [List.flatten_cons, List.length_append]
    rcases List.mem_cons.mp h with e | e
    · rw [e]; omega
    · have := flat_mem_len (bs := bs) e
      omega
theorem Good.len {ns : List Int} {bs : List (List Int)} (G : Good ns bs) : bs.length ≤ ns.length := by
  have := flat_len G.ne
  rw [G.flat] at this
  exact this
theorem Good.rowlen {ns : List Int} {bs : List (List Int)} (G : Good ns bs) {b : List Int} (h : b ∈ bs) : b.length ≤ ns.length := by
  have := flat_mem_len h
  rw [G.flat] at this
  exact this
/-- the law's own question: is a number before it greater? -/
theorem cut_ask {ns : List Int} {n : Int} (nd : (ns ++ [n]).Nodup) : (ns.filter fun o => decide (n < o)) = [] ↔ (cut ns = [] ∨ ∃ ini x r, cut ns = ini ++ [x :: r] ∧ x < n) := by
  have G := good_cut ns
  constructor
  · intro h
    rcases G.last with e | ⟨ini, x, r, e, hx, hm⟩
    · exact Or.inl e
    · refine Or.inr ⟨ini, x, r, e, ?_⟩
      have h1 := (List.filter_eq_nil_iff.mp h) x hx
      have h2 : ¬ n < x := fun z => h1 (decide_eq_true z)
      have h3 : x ≠ n := fun z => by
        have := (List.nodup_append.mp nd).2.2 x hx n (by simp)
        exact this z
      omega
  · intro h
    refine List.filter_eq_nil_iff.mpr ?_
    intro y hy
    rcases h with e | ⟨ini, x, r, e, hlt⟩
    · have : ns = [] := by rw [← G.flat, e]; rfl
      rw [this] at hy
      simp at hy
    · rcases G.last with e2 | ⟨ini2, x2, r2, e2, hx2, hm2⟩
      · rw [e2] at e
        simp at e
      · rw [e2] at e
        have e3 := (List.append_inj' e rfl).2
        have e4 : x2 = x := by simpa using (List.cons.inj (List.cons.inj e3).1).1
        have := hm2 y hy
        have : ¬ n < y := by omega
        simpa using this
end My
namespace My
open PySem PySem.Spec PyProof.Rows L2
theorem erase_perm {α : Type} : ∀ {l : List α} {k : Nat} {y : α}, l[k]? = some y → (y :: l.eraseIdx k).Perm l
  | [], k, y, h => by simp at h
  | x :: l, 0, y, h => by
    have e : x = y := Option.some.inj h
    subst e
    exact List.Perm.refl _
  | x :: l, k + 1, y, h => by
    have ih := erase_perm (l := l) (k := k) (y := y) h
    exact (List.Perm.swap x y _).trans (List.Perm.cons x ih)
theorem erase_map {α β : Type} (g : α → β) : ∀ (l : List α) (k : Nat), (l.map g).eraseIdx k = (l.eraseIdx k).map g
  | [], _ => rfl
  | _ :: _, 0 => rfl
  | x :: l, k + 1 => by
    show g x :: (l.map g).eraseIdx k = g x :: (l.eraseIdx k).map g
    rw [erase_map g l k]
/-- two neighbours turned -/
def swp (fs : List Int) (t : Nat) : List Int := fs.take t ++ ((fs.drop t).take 2).reverse ++ fs.drop (t + 2)
theorem swp_perm (fs : List Int) (t : Nat) : (swp fs t).Perm fs := by
  unfold swp
  have e : fs = fs.take t ++ ((fs.drop t).take 2 ++ fs.drop (t + 2)) := by
    have h1 : (fs.drop t).take 2 ++ (fs.drop t).drop 2 = fs.drop t := List.take_append_drop ..
    rw [List.drop_drop] at h1
    rw [show t + 2 = t + 2 from rfl, h1, List.take_append_drop]
  rw [List.append_assoc]
  refine List.Perm.trans ?_ (List.Perm.of_eq e.symm)
  exact List.Perm.append_left _ (List.Perm.append_right _ (List.reverse_perm _))
theorem cut_two {fs : List Int} {t : Nat} (h : t + 2 ≤ fs.length) : cutV (fs.map V.int) (some (t : Int)) (some ((t : Int) + 2)) = ((fs.drop t).take 2).map V.int := by
  unfold cutV
  have e : ((t : Int) + 2) = ((t + 2 : Nat) : Int) := rfl
  rw [e, HT.sIx_nat, HT.sIx_nat, List.length_map]
  have h1 : min t fs.length = t := Nat.min_eq_left (by omega)
  have h2 : min (t + 2) fs.length = t + 2 := Nat.min_eq_left h
  rw [h1, h2, Nat.add_sub_cancel_left, List.map_take, List.map_drop]
theorem swp_vals {fs : List Int} {t : Nat} (h : t + 2 ≤ fs.length) :
    (fs.map V.int).take (t : Int).toNat ++ (((fs.drop t).take 2).map V.int).reverse ++ (fs.map V.int).drop ((t : Int) + 2).toNat = (swp fs t).map V.int := by
  have e1 : (t : Int).toNat = t := Int.toNat_natCast t
  have e2 : ((t : Int) + 2).toNat = t + 2 := by omega
  rw [e1, e2]
  unfold swp
  simp only [List.map_append, List.map_take, List.map_drop, List.map_reverse]
theorem pick4 (a b c d : Int) {v : Int} (h0 : 0 ≤ v) (h1 : v < 4) (p : Int → Prop) (ha : p a) (hb : p b) (hc : p c) (hd : p d) :
    ∃ g, atI [V.int a, V.int b, V.int c, V.int d] v = some (.int g) ∧ p g := by
  have hv : v = ((0 : Nat) : Int) ∨ v = ((1 : Nat) : Int) ∨ v = ((2 : Nat) : Int) ∨ v = ((3 : Nat) : Int) := by omega
  rcases hv with e | e | e | e
  · exact ⟨a, by rw [e]; exact atI_nat rfl, ha⟩
  · exact ⟨b, by rw [e]; exact atI_nat rfl, hb⟩
  · exact ⟨c, by rw [e]; exact atI_nat rfl, hc⟩
  · exact ⟨d, by rw [e]; exact atI_nat rfl, hd⟩
theorem pick3 (a b c : Int) {v : Int} (h0 : 0 ≤ v) (h1 : v < 3) (p : Int → Prop) (ha : p a) (hb : p b) (hc : p c) :
    ∃ g, atI [V.int a, V.int b, V.int c] v = some (.int g) ∧ p g := by
  have hv : v = ((0 : Nat) : Int) ∨ v = ((1 : Nat) : Int) ∨ v = ((2 : Nat) : Int) := by omega
  rcases hv with e | e | e
  · exact ⟨a, by rw [e]; exact atI_nat rfl, ha⟩
  · exact ⟨b, by rw [e]; exact atI_nat rfl, hb⟩
  · exact ⟨c, by rw [e]; exact atI_nat rfl, hc⟩
theorem asc_nodup {fs : List Int} (h : fs.Pairwise (· < ·)) : fs.Nodup := h.imp fun z => by omega
/-- all but what stands at D is as it was -/
def But (D : Addr) (H H' : Hp) : Prop := ∀ b o, b ≠ D → H b = some o → H' b = some o
theorem But.refl (D : Addr) (H : Hp) : But D H H := fun _ _ _ h => h
theorem But.trans {D : Addr} {H H1 H2 : Hp} (a : But D H H1) (b : But D H1 H2) : But D H H2 := fun c o n h => b c o n (a c o n h)
theorem But.of {D : Addr} {H H' : Hp} (s : Same H H') : But D H H' := fun b o _ h => s b o h
theorem But.updD {D : Addr} {H H' : Hp} {o : HO} (s : But D H H') : But D H (upd H' D o) := fun b u n e => by
  rw [upd_ne n]
  exact s b u n e
theorem But.updN {D p : Addr} {H H' : Hp} {o : HO} (s : But D H H') (n : H p = none) : But D H (upd H' p o) := fun b u nb e => by
  rw [upd_ne (ne_of_none e n)]
  exact s b u nb e
theorem But.free {D p : Addr} {H H' : Hp} (s : But D H H') (np : p ≠ D) (n : H' p = none) : H p = none := by
  cases e : H p with
  | none => rfl
  | some o =>
    rw [s p o np e] at n
    cases n
end My
namespace My
open PySem PySem.Spec PyProof.Rows L2
theorem put_new {pre : List Int} {n : Int} (h : cut pre = [] ∨ ∃ ini x r, cut pre = ini ++ [x :: r] ∧ x < n) : put (cut pre) n = cut pre ++ [[n]] := by
  rcases h with e | ⟨ini, x, r, e, l⟩
  · rw [e]; rfl
  · rw [e, put_snoc]
    exact if_pos l
theorem put_old {pre : List Int} {n : Int} (h : ¬ (cut pre = [] ∨ ∃ ini x r, cut pre = ini ++ [x :: r] ∧ x < n)) :
    ∃ ini x r, cut pre = ini ++ [x :: r] ∧ put (cut pre) n = ini ++ [(x :: r) ++ [n]] := by
  rcases (good_cut pre).last with e | ⟨ini, x, r, e, _, _⟩
  · exact absurd (Or.inl e) h
  · refine ⟨ini, x, r, e, ?_⟩
    rw [e, put_snoc]
    exact if_neg fun z => h (Or.inr ⟨ini, x, r, e, z⟩)
theorem cut_to {xs : List V} (j : Nat) : cutV xs none (some (j : Int)) = xs.take j := by
  unfold cutV
  rw [HT.sIx_nat, HT.sIx_none, List.drop_zero, Nat.sub_zero]
  rcases Nat.le_total j xs.length with h | h
  · rw [Nat.min_eq_left h]
  · rw [Nat.min_eq_right h, List.take_of_length_le (Nat.le_refl _), List.take_of_length_le h]

/-! data -/
def dI (ns : List Int) : PyData := .list (ns.map .int)
def dR (bs : List (List Int)) : PyData := .list (bs.map dI)
theorem dpAll_ints {K : PySem.W.Frag} {H : Hp} : ∀ ns : List Int, DpAll K H (ns.map V.int) (ns.map PyData.int)
  | [] => .nil
  | n :: ns => .cons (.int n) (dpAll_ints ns)
theorem dpI {K : PySem.W.Frag} {H : Hp} {a : Addr} {ns : List Int} (h : SqL K H a (ns.map V.int)) : Dp K H (.ref a) (dI ns) := .lst h (dpAll_ints ns)
theorem dpAll_rows {K : PySem.W.Frag} {H : Hp} : ∀ {qs : List Addr} {bs : List (List Int)}, qs.length = bs.length →
    (∀ (j : Nat) (q : Addr) (b : List Int), qs[j]? = some q → bs[j]? = some b → H q = some (.lst (b.map V.int))) → DpAll K H (qs.map V.ref) (bs.map dI)
  | [], [], _, _ => .nil
  | q :: qs, b :: bs, hl, h => .cons (dpI (SqL.of (h 0 q b rfl rfl))) (dpAll_rows (by simpa using hl) fun j q' b' e1 e2 => h (j + 1) q' b' e1 e2)
  | [], _ :: _, hl, _ => by cases hl
  | _ :: _, [], hl, _ => by cases hl
theorem dpR {K : PySem.W.Frag} {H : Hp} {p : Addr} {qs : List Addr} {bs : List (List Int)} (h : H p = some (.lst (qs.map V.ref))) (R : Rws H qs (bs.map fun b => b.map V.int)) : Dp K H (.ref p) (dR bs) := by
  refine .lst (SqL.of h) (dpAll_rows (by have := R.len; rwa [List.length_map] at this) ?_)
  intro j q b e1 e2
  exact R.get j q _ e1 (by rw [List.getElem?_map, e2]; rfl)
theorem lay_ints : ∀ ns : List Int, PyData.canLayAll0 (ns.map PyData.int) = true
  | [] => by simp [PyData.canLayAll0]
  | n :: ns => by simp [PyData.canLayAll0, PyData.canLay0, lay_ints ns]
theorem dep_ints : ∀ ns : List Int, PyData.depthAll (ns.map PyData.int) ≤ 1
  | [] => by simp [PyData.depthAll]
  | n :: ns => by
    have := dep_ints ns
    simp only [List.map_cons, PyData.depthAll, PyData.depth]
    omega
theorem dI_depth (ns : List Int) : (dI ns).depth ≤ 2 := by
  have := dep_ints ns
  unfold dI
  simp only [PyData.depth]
  omega
theorem dR_depthAll : ∀ bs : List (List Int), PyData.depthAll (bs.map dI) ≤ 2
  | [] => by simp [PyData.depthAll]
  | b :: bs => by
    have h1 := dR_depthAll bs
    have h2 := dI_depth b
    simp only [List.map_cons, PyData.depthAll]
    omega
theorem dR_depth (bs : List (List Int)) : (dR bs).depth ≤ 3 := by
  have := dR_depthAll bs
  unfold dR
  simp only [PyData.depth]
  omega
theorem shaped_I (ns : List Int) : SeqAt.shaped (dI ns) = true := by
  have h := dI_depth ns
  show ((dI ns).canLay0 && decide ((dI ns).depth ≤ 64)) = true
  rw [Bool.and_eq_true]
  refine ⟨?_, decide_eq_true (by omega)⟩
  unfold dI
  simp only [PyData.canLay0]
  exact lay_ints ns
theorem eqv_empty (ds : List PyData) : PyData.eqv (.list ds) (.list []) = ds.isEmpty := by
  cases ds with
  | nil => simp [PyData.eqv, PyData.eqvAll]
  | cons d r => simp [PyData.eqv, PyData.eqvAll]
/-- numbers whose text is short -/
def Sh (ns : List Int) : Prop := ∀ x ∈ ns, -(10 ^ 32) < x ∧ x < 10 ^ 32
theorem show_I : ∀ ns : List Int, Sh ns → PyData.showableAll (ns.map PyData.int) = true
  | [], _ => by simp [PyData.showableAll]
  | n :: ns, h => by
    have h1 := h n (List.mem_cons_self ..)
    have h2 := show_I ns fun x hx => h x (List.mem_cons_of_mem _ hx)
    have z := PySem.Flt.log2_lt_of (show 0 < 120 by decide) (show n.natAbs < 2 ^ 120 by omega)
    have h3 : n.natAbs.log2 < 1920 := by omega
    simp [PyData.showableAll, PyData.showable, h2, h3]
theorem nodict_I : ∀ ns : List Int, PyData.hasDictAll (ns.map PyData.int) = false
  | [] => by simp [PyData.hasDictAll]
  | n :: ns => by simp [PyData.hasDictAll, PyData.hasDict, nodict_I ns]
theorem show_R : ∀ bs : List (List Int), (∀ b ∈ bs, Sh b) → PyData.showableAll (bs.map dI) = true
  | [], _ => by simp [PyData.showableAll]
  | b :: bs, h => by
    have h1 := show_I b (h b (List.mem_cons_self ..))
    have h2 := show_R bs fun x hx => h x (List.mem_cons_of_mem _ hx)
    have h3 : (dI b).showable = true := by unfold dI; simp only [PyData.showable]; exact h1
    simp [PyData.showableAll, h2, h3]
theorem nodict_R : ∀ bs : List (List Int), PyData.hasDictAll (bs.map dI) = false
  | [] => by simp [PyData.hasDictAll]
  | b :: bs => by
    have h3 : (dI b).hasDict = false := by unfold dI; simp only [PyData.hasDict]; exact nodict_I b
    simp [PyData.hasDictAll, h3, nodict_R bs]
theorem int_len {i : Int} (h : -(10 ^ 32) < i ∧ i < 10 ^ 32) : (PyData.int i).shown.length ≤ 33 := by
  have e := PySem.int_text_length_le10 (a := i) (k := 32) (by decide) (by omega)
  rw [PyData.shown_int]
  show (Str.ofString (toString i)).length ≤ 33
  rw [PySem.ofString_length]
  exact e
theorem sumI : ∀ ns : List Int, Sh ns → ((PyData.shownAll (ns.map PyData.int)).map (·.length)).sum ≤ 33 * ns.length
  | [], _ => by simp [PyData.shownAll]
  | n :: ns, h => by
    have h1 := int_len (h n (List.mem_cons_self ..))
    have h2 := sumI ns fun x hx => h x (List.mem_cons_of_mem _ hx)
    simp only [List.map_cons, PyData.shownAll, List.sum_cons, List.length_cons]
    omega
theorem dI_len {ns : List Int} (h : Sh ns) : (dI ns).shown.length ≤ 35 * ns.length + 3 := by
  have h1 := listText_len_le (PyData.shownAll (ns.map PyData.int))
  have h2 := sumI ns h
  rw [PyData.shownAll_length, List.length_map] at h1
  unfold dI
  simp only [PyData.shown]
  omega
theorem sumR (m : Nat) : ∀ bs : List (List Int), (∀ b ∈ bs, Sh b ∧ b.length ≤ m) → ((PyData.shownAll (bs.map dI)).map (·.length)).sum ≤ (35 * m + 3) * bs.length
  | [], _ => by simp [PyData.shownAll]
  | b :: bs, h => by
    obtain ⟨h0, h0'⟩ := h b (List.mem_cons_self ..)
    have h1 := dI_len h0
    have h2 := sumR m bs fun x hx => h x (List.mem_cons_of_mem _ hx)
    simp only [List.map_cons, PyData.shownAll, List.sum_cons, List.length_cons, Nat.mul_add]
    omega
theorem dR_len {bs : List (List Int)} (h : ∀ b ∈ bs, Sh b ∧ b.length ≤ 300) (hl : bs.length ≤ 300) : (dR bs).shown.length ≤ sizeLine := by
  have h1 := listText_len_le (PyData.shownAll (bs.map dI))
  have h2 := sumR 300 bs h
  rw [PyData.shownAll_length, List.length_map] at h1
  have h3 : (35 * 300 + 3) * bs.length ≤ (35 * 300 + 3) * 300 := Nat.mul_le_mul_left _ hl
  have e : (dR bs).shown = listText (PyData.shownAll (bs.map dI)) := by unfold dR; simp only [PyData.shown]
  rw [e]
  unfold sizeLine
  omega
/-- what repr asks of them -/
theorem askI {ns : List Int} (h : Sh ns) (hl : ns.length ≤ 4000) : (dI ns).showable = true ∧ (dI ns).hasDict = false ∧ (dI ns).shown.length ≤ sizeLine ∧ (dI ns).depth ≤ 60 := by
  refine ⟨?_, ?_, ?_, ?_⟩
  · unfold dI; simp only [PyData.showable]; exact show_I ns h
  · unfold dI; simp only [PyData.hasDict]; exact nodict_I ns
  · have := dI_len h
    unfold sizeLine
    omega
  · have := dI_depth ns
    omega
theorem askR {bs : List (List Int)} (h : ∀ b ∈ bs, Sh b ∧ b.length ≤ 300) (hl : bs.length ≤ 300) : (dR bs).showable = true ∧ (dR bs).hasDict = false ∧ (dR bs).shown.length ≤ sizeLine ∧ (dR bs).depth ≤ 60 := by
  refine ⟨?_, ?_, dR_len h hl, ?_⟩
  · unfold dR; simp only [PyData.showable]; exact show_R bs fun b hb => (h b hb).1
  · unfold dR; simp only [PyData.hasDict]; exact nodict_R bs
  · have := dR_depth bs
    omega
theorem Good.sh {ns : List Int} {bs : List (List Int)} (G : Good ns bs) (h : Sh ns) (hl : ns.length ≤ 300) : ∀ b ∈ bs, Sh b ∧ b.length ≤ 300 := by
  intro b hb
  refine ⟨fun x hx => h x ?_, Nat.le_trans (G.rowlen hb) hl⟩
  rw [← G.flat]
  exact List.mem_flatten.mpr ⟨b, hb, hx⟩

/-! a loop over enumerate(a) -/
theorem for_en {K : PySem.W.Frag} {a : Addr} {xs : List V} {g : TG} {tb : TS} {D : Ends} {sg : L2.St} {H : Hp} (Pv : Nat → L2.St → Hp → Prop) (start : Pv 0 sg H)
    (stays : ∀ i sg H, i ≤ xs.length → Pv i sg H → SqL K H a xs)
    (turn : ∀ i x sg H T, xs[i]? = some x → Pv i sg H → H T = none → g (.ref T) sg (upd H T (.tup [.int (i : Nat), x])) fun sg2 H2 => tb { D with nx := Pv (i + 1), ct := Pv (i + 1), bk := D.nx } sg2 H2)
    (last : ∀ sg H, Pv xs.length sg H → D.nx sg H) :
    ∃ W : Nat → Nat → L2.St → Hp → Prop, (∃ m, W 0 m sg H) ∧ ∀ i m sg H, W i m sg H →
      ((Ite K a).stop i H ∧ D.nx sg H) ∨ ((Ite K a).go i H ∧ ∃ N : L2.St → Hp → Prop, (∀ s' H', N s' H' → ∃ m', m' < m ∧ W (i + 1) m' s' H') ∧
        ∀ x H', (Ite K a).yld i H x H' → g x sg H' fun sg2 H2 => tb { D with nx := N, ct := N, bk := D.nx } sg2 H2) := by
  refine ⟨fun i m s H => m = xs.length - i ∧ i ≤ xs.length ∧ Pv i s H, ⟨xs.length, rfl, Nat.zero_le _, start⟩, ?_⟩
  rintro i m s H ⟨em, le, p⟩
  have sq := stays i s H le p
  rcases Nat.lt_or_ge i xs.length with lt | ge
  · have at1 : xs[i]? = some xs[i] := List.getElem?_eq_getElem lt
    refine Or.inr ⟨⟨xs, xs[i], sq, at1⟩, Pv (i + 1), ?_, ?_⟩
    · intro s' H' p'
      exact ⟨xs.length - (i + 1), by omega, rfl, lt, p'⟩
    · rintro x H' ⟨T, y, e1, nT, e2, f⟩
      have ey := f xs sq
      subst e1 e2
      exact turn i y s H T ey p nT
  · have e : i = xs.length := by omega
    subst e
    exact Or.inl ⟨⟨xs, sq, Nat.le_refl _⟩, last s H p⟩
end My
namespace My
open PySem PySem.Spec PyProof.Rows L2 LamX

/-! the law's end where some defs hold a lambda: cs tells their code objects and the tables of these -/
theorem endGT {P : Program} {w : World} {K : PySem.W.Frag} {mg mb : Str → Option Value} {k : Nat} {fa a : Addr} {fd : FuncData} {x : Str} {sp : Sp}
    {s1 : Shared} {us : List Value} {ns : List Int} {cs : List (Addr × Addr)} (KX : K.In s1.heap) (hns : s1.heap.Ns mainGlobals mg) (hb : s1.heap.Ns builtinsNs mb)
    (hbb : ∀ x : Str, x ≠ "__name__" → mb x = bootBuiltins x) (hlim : s1.heap.NoLimit) (hg : s1.gens = #[])
    (hT : ∀ p ∈ cs, s1.heap.get? p.2 = some { cls := .none, data := .fields #[] }) (nT : ∀ p ∈ cs, K.lookup p.2 = none) (hC : ∀ p ∈ cs, PySem.W.CodeHd s1.heap p.1 p.2)
    (hbm : ∃ (bm : Addr) (ob : Obj), mg "__builtins__" = some (.ref bm) ∧ bm ≠ builtinsNs ∧ s1.heap.get? bm = some ob ∧ ob.cls = .type "module" ∧
      ob.dict = some builtinsNs ∧ ob.data = .plain)
    (ha : s1.heap.get? a = some { cls := .type "list", data := .seq us.toArray }) (hi : IntsAre us ns) (hl : ns.length ≤ sizeLine)
    (room : Room k callerA) (F : ∀ base : Heap, K.In base → base.Ns mainGlobals mg → (∀ p ∈ cs, TabB base mg p.1 p.2) → FnG P w K mg base k fa fd [x] sp)
    (bi : ∀ (s : Shared) (u : Value), BindsTo s fd ⟨[u], []⟩ [(x, u)])
    (want : ∀ H : Hp, (∀ p ∈ cs, H p.2 = some (.tbl #[])) → SqL K H a (ns.map V.int) → sp [.ref a] H (fun v _ => v = .bl true) fun _ _ _ => False) :
    codeAny (model P w) callerA (.call (.ref fa) ⟨[.ref a], []⟩)
      (fun r s' => r = .ok (.ret (.bool true)) ∧ OldK s1.heap s'.heap ∧ s'.os = s1.os ∧ AllBare s'.gens) s1 := by
  have rv := vals_ints hi
  have emp : ∀ b : Addr, b ∈ cs.map (·.2) → s1.heap.get? b = some { cls := .none, data := .fields #[] } := by
    intro b hb
    obtain ⟨p, hp, rfl⟩ := List.mem_map.mp hb
    exact hT p hp
  have aNot : a ∉ cs.map (·.2) := by
    intro z
    have y := emp a z
    rw [ha] at y
    cases (show Data.seq us.toArray _ = Data.fields #[] from congrArg Obj.data (Option.some.inj y))
  have main : ∀ H : Hp, (∀ p ∈ cs, H p.2 = some (.tbl #[])) → (∀ b, H b = none ∨ b ∈ cs.map (·.2) ∨ ∃ o xs, H b = some (.frz o (.lst xs))) → SqL K H a (ns.map V.int) →
      HOk P w H s1.heap → (∀ b, H b ≠ none → b = a ∨ b ∈ cs.map (·.2)) → (H a ≠ none → K.lookup a = none) →
      codeAny (model P w) callerA (.call (.ref fa) ⟨[.ref a], []⟩)
        (fun r s' => r = .ok (.ret (.bool true)) ∧ OldK s1.heap s'.heap ∧ s'.os = s1.os ∧ AllBare s'.gens) s1 := by
    intro H atT only hS hok hA hK
    have free : ∀ {b : Addr} {o : Obj}, s1.heap.get? b = some o → (∀ v n, o.data ≠ .seq v n) → o.data ≠ .fields #[] → H b = none := by
      intro b o e d1 d2
      by_cases z : H b = none
      · exact z
      · rcases hA b z with y | y
        · rw [y, ha] at e
          cases e
          exact absurd rfl (d1 _ _)
        · rw [emp b y] at e
          cases e
          exact absurd rfl d2
    have dictFree : ∀ {b : Addr} {o : Obj} {es : Array DictEntry} {ep : Nat}, s1.heap.get? b = some o → o.data = .dict es ep → H b = none := by
      intro b o es ep e d
      refine free e ?_ ?_
      · intro v n z; rw [d] at z; cases z
      · intro z; rw [d] at z; cases z
    have over : ∀ {b : Addr} {m : Str → Option Value}, s1.heap.Ns b m → (hidT s1.heap H).Ns b m := by
      rintro b m ⟨o, es, ep, e, d, r⟩
      exact ⟨o, es, ep, hidT_get e (dictFree e d), d, r⟩
    have KB : K.In (hidT s1.heap H) := by
      intro b o e
      refine hidT_get (KX b o e) ?_
      by_cases z : H b = none
      · exact z
      · rcases hA b z with y | y
        · rw [y] at z e
          rw [hK z] at e
          cases e
        · obtain ⟨p, hp, rfl⟩ := List.mem_map.mp y
          rw [nT p hp] at e
          cases e
    have M : L2.Mod K mg (hidT s1.heap H) := by
      obtain ⟨mc, l1, l2⟩ := hlim
      exact ⟨KB, over hns, ⟨mb, over hb, hbb⟩, ⟨mc, over l1, l2⟩⟩
    have TB : ∀ p ∈ cs, TabB (hidT s1.heap H) mg p.1 p.2 := by
      intro p hp
      have tp := hT p hp
      refine ⟨?_, ?_, ?_⟩
      · obtain ⟨o, vs, file, tf, flags, tg, inF, text, tt, e1, r1, r2, r3, rest⟩ := hC p hp
        refine ⟨o, vs, file, tf, flags, tg, inF, text, tt, hidT_get e1 (free e1 ?_ ?_), r1, r2, r3, rest⟩
        · intro v n z; rw [r2] at z; cases z
        · intro z
          rw [r2] at z
          cases z
          simp at r3
      · obtain ⟨bm, ob, m1, m2, m3, m4, m5, m6⟩ := hbm
        have n1 : bm ≠ mainGlobals := by
          intro z
          obtain ⟨o, es, ep, e, d, _⟩ := hns
          rw [z, e] at m3
          cases m3
          rw [d] at m6
          cases m6
        have n2 : bm ≠ p.2 := by
          intro z
          rw [z, tp] at m3
          cases m3
          cases m6
        refine ⟨bm, ob, m1, m2, n1, n2, hidT_get m3 (free m3 ?_ ?_), m4, m5, m6⟩
        · intro v n z; rw [m6] at z; cases z
        · intro z; rw [m6] at z; cases z
      · intro z
        obtain ⟨o, es, ep, e, d, _⟩ := hns
        rw [z, tp] at e
        cases e
        cases d
    have E0' : Env0 P w K mg (hidT s1.heap H) callerA [] s1 H :=
      ⟨rfl, M, fun b o e => of_hidT e, Nat.le_of_eq (hidT_size _ _), trivial, (fun b hb => nomatch (show b ∈ ([] : List Addr) from hb)), hok, .of_eq hg⟩
    refine codeAny_mono ((F _ KB (over hns) TB).run callerA [] s1 H ⟨[.ref a], []⟩ [.ref a] [.ref a] _ _ room rfl E0' (bi s1 (.ref a)) (.cons rfl .nil) (want H atT hS)) ?_
    intro r s' z
    cases r with
    | error e => exact False.elim z
    | ok fl =>
      cases fl with
      | next => exact False.elim z
      | brk => exact False.elim z
      | cont => exact False.elim z
      | ret u =>
        obtain ⟨v, H', os, bare, un, hok2, r1, q⟩ := z
        have q1 : v = .bl true := q
        subst q1
        have q2 : u = Value.bool true := r1
        subst q2
        have old : ∀ b o, b ∉ cs.map (·.2) → s1.heap.get? b = some o → s'.heap.get? b = some o := by
          intro b o nb e
          rcases only b with n | n | ⟨ob, xs, n⟩
          · exact un.keep b o e n (fun y => nomatch (show b ∈ ([] : List Addr) from y)) (fun y => nomatch y)
          · exact absurd n nb
          · obtain ⟨e1, _⟩ := hok b _ n
            obtain ⟨e2, _⟩ := hok2 b _ (un.frzs b ob _ n)
            rw [e] at e1
            cases e1
            exact e2
        have grown : ∀ p ∈ cs, ∃ more : Array Value, s'.heap.get? p.2 = some { cls := .none, data := .fields more } := by
          intro p hp
          obtain ⟨more, y⟩ := un.tbls p.2 #[] (atT p hp)
          exact ⟨_, hok2 p.2 _ y⟩
        refine ⟨rfl, ⟨?_, ?_⟩, os, bare⟩
        · intro b o e
          by_cases y : b ∈ cs.map (·.2)
          · obtain ⟨p, hp, rfl⟩ := List.mem_map.mp y
            obtain ⟨more, hm⟩ := grown p hp
            rw [hT p hp] at e
            cases e
            exact Or.inr (Or.inl ⟨((hC p hp).tab (hT p hp)).isCodeTable, rfl, #[], more, rfl, by rw [Array.empty_append]; exact hm⟩)
          · exact Or.inl (old b o y e)
        · intro b o e
          by_cases y : b ∈ cs.map (·.2)
          · obtain ⟨p, hp, rfl⟩ := List.mem_map.mp y
            obtain ⟨more, hm⟩ := grown p hp
            exact ⟨_, hm⟩
          · exact ⟨o, old b o y e⟩
  have inT : ∀ p ∈ cs, p.2 ∈ cs.map (·.2) := fun p hp => List.mem_map.mpr ⟨p, hp, rfl⟩
  cases hk : K.lookup a with
  | some o =>
    have e := KX a o hk
    rw [ha] at e
    cases e
    have t1 : ∀ b, b ∈ cs.map (·.2) → (fun b => if b ∈ cs.map (·.2) then some (HO.tbl #[]) else none : Hp) b = some (.tbl #[]) := fun b z => if_pos z
    have t2 : ∀ b, b ∉ cs.map (·.2) → (fun b => if b ∈ cs.map (·.2) then some (HO.tbl #[]) else none : Hp) b = none := fun b z => if_neg z
    refine main (fun b => if b ∈ cs.map (·.2) then some (HO.tbl #[]) else none) (fun p hp => t1 _ (inT p hp)) ?_ (Or.inr ⟨_, us.toArray, _, hk, rfl, rfl, rfl, ?_, ?_⟩) ?_ ?_ ?_
    · intro b
      by_cases z : b ∈ cs.map (·.2)
      · exact Or.inr (Or.inl z)
      · exact Or.inl (t2 b z)
    · rw [List.size_toArray, hi.length]; exact hl
    · simpa using rv
    · intro b u z
      by_cases y : b ∈ cs.map (·.2)
      · rw [t1 b y] at z
        cases z
        exact emp b y
      · rw [t2 b y] at z; cases z
    · intro b z
      by_cases y : b ∈ cs.map (·.2)
      · exact Or.inr y
      · exact absurd (t2 b y) z
    · intro z; exact absurd (t2 a aNot) z
  | none =>
    have at_a : (fun b => if b = a then some (HO.frz { cls := .type "list", data := .seq us.toArray } (.lst (ns.map V.int))) else if b ∈ cs.map (·.2) then some (HO.tbl #[]) else none : Hp) a
      = some (HO.frz { cls := .type "list", data := .seq us.toArray } (.lst (ns.map V.int))) := if_pos rfl
    have t1 : ∀ b, b ∈ cs.map (·.2) → (fun b => if b = a then some (HO.frz { cls := .type "list", data := .seq us.toArray } (.lst (ns.map V.int))) else if b ∈ cs.map (·.2) then some (HO.tbl #[]) else none : Hp) b
      = some (.tbl #[]) := fun b z => (if_neg (fun y => aNot (by rw [← y]; exact z))).trans (if_pos z)
    have t2 : ∀ b, b ≠ a → b ∉ cs.map (·.2) → (fun b => if b = a then some (HO.frz { cls := .type "list", data := .seq us.toArray } (.lst (ns.map V.int))) else if b ∈ cs.map (·.2) then some (HO.tbl #[]) else none : Hp) b
      = none := fun b y z => (if_neg y).trans (if_neg z)
    refine main (fun b => if b = a then some (HO.frz { cls := .type "list", data := .seq us.toArray } (.lst (ns.map V.int))) else if b ∈ cs.map (·.2) then some (HO.tbl #[]) else none)
      (fun p hp => t1 _ (inT p hp)) ?_ (Or.inl (Or.inr ⟨_, at_a⟩)) ?_ ?_ (fun _ => hk)
    · intro b
      by_cases z : b = a
      · subst z; exact Or.inr (Or.inr ⟨_, _, at_a⟩)
      · by_cases y : b ∈ cs.map (·.2)
        · exact Or.inr (Or.inl y)
        · exact Or.inl (t2 b z y)
    · intro b u z
      by_cases y : b = a
      · subst y
        rw [at_a] at z
        cases z
        exact ⟨ha, by rw [List.length_map]; exact hl, us, _, rv, ha⟩
      · by_cases y2 : b ∈ cs.map (·.2)
        · rw [t1 b y2] at z
          cases z
          exact emp b y2
        · rw [t2 b y y2] at z; cases z
    · intro b z
      by_cases y : b = a
      · exact Or.inl y
      · by_cases y2 : b ∈ cs.map (·.2)
        · exact Or.inr y2
        · exact absurd (t2 b y y2) z

/-- what is known of the code object of the def nm, and of its table, where the law begins -/
def TabOf (K : PySem.W.Frag) (mg : Str → Option Value) (h : Heap) (nm : Str) : Prop :=
  ∀ (f c Q : Addr) (o : Obj) (fd : FuncData) (e : Value) (dd : Option Addr) (vs : Array Value) (sl : Array (Option Value)), mg nm = some (.ref f) → K.lookup f = some o → o.data = .func fd → fd.code = .ref c →
    K.lookup c = some ⟨e, dd, .fields vs, sl⟩ → vs[11]? = some (.ref Q) → h.get? Q = some { cls := .none, data := .fields #[] } ∧ PySem.W.CodeHd h c Q
theorem walkGT {l : PySem.W.OpenLaw} {n k : Nat} {q : Program} {loose : List Str} {XP : (Str → Option Value) → Heap → Prop} {YP : World → Heap → Prop}
    {d : DefRec} {K : Params → PySem.W.Frag} {x : Str} (hn : l.most = some n) (hn2 : n ≤ sizeLine) (hdf : d.params.defaults = [])
    (room : Room k callerA) (hY : ∀ (w : World) (h : Heap), YP w h → (K w.params).In h)
    (F : ∀ (w : World) (mg : Str → Option Value) (fa : Addr) (h : Heap), (K w.params).In h → h.Ns mainGlobals mg → mg d.name = some (.ref fa) →
      (∀ nm : Str, ((recsOf q).any fun e => e.name == nm) = true → TabOf (K w.params) mg h nm) →
      ∃ (fd : FuncData) (cs : List (Addr × Addr)) (sp : Sp), (∀ p ∈ cs, h.get? p.2 = some { cls := .none, data := .fields #[] }) ∧ (∀ p ∈ cs, (K w.params).lookup p.2 = none) ∧ (∀ p ∈ cs, PySem.W.CodeHd h p.1 p.2) ∧
        (∀ (s : Shared) (u : Value), BindsTo s fd ⟨[u], []⟩ [(x, u)]) ∧
        (∀ (H : Hp) (a : Addr) (ns : List Int), ns.length ≤ n → (∀ p ∈ cs, H p.2 = some (.tbl #[])) → SqL (K w.params) H a (ns.map V.int) → sp [.ref a] H (fun v _ => v = .bl true) fun _ _ _ => False) ∧
        ∀ base : Heap, (K w.params).In base → base.Ns mainGlobals mg → (∀ p ∈ cs, TabB base mg p.1 p.2) → FnG l.prog w (K w.params) mg base k fa fd [x] sp) :
    PySem.W.WalkO q loose XP YP l.row.toRowW d [] (fun f vs => PySem.call f vs) := by
  refine Att.attach_call hn hdf ?_
  intro w s0 s1 mg mb fa o pm cd doc a us ns G Y ho hd hcd hmg hobj hints hlen hg
  have KX := hY w _ Y
  have tabs : ∀ nm : Str, ((recsOf q).any fun e => e.name == nm) = true → TabOf (K w.params) mg s1.heap nm := by
    intro nm hr f c Q o1 fd1 e dd vs sl k0 k1 k2 k3 k4 k5
    obtain ⟨dL, hm, hq⟩ := List.any_eq_true.mp hr
    have en : dL.name = nm := beq_iff_eq.mp hq
    obtain ⟨a', o', fd', c', P', h1, h2, h3, h4, h5, h6⟩ := G.T.tab dL hm
    rw [en, k0] at h1
    cases h1
    have g1 := KX _ _ k1
    rw [g1] at h2
    cases h2
    rw [k2] at h3
    cases h3
    rw [k3] at h4
    cases h4
    obtain ⟨⟨oc, vc, e1, e2, e3, e4⟩, hP⟩ := id h6
    have g2 := KX _ _ k4
    rw [g2] at e1
    cases e1
    cases e3
    rw [k5] at e4
    cases e4
    exact ⟨hP, PySem.W.CodeHd.of h5 h6⟩
  obtain ⟨fd, cs, sp, t1, t2, t3, b1, wt, b2⟩ := F w mg fa _ KX G.T.g hmg tabs
  exact endGT KX G.T.g G.T.b G.T.builtins G.T.nolimit hg t1 t2 t3 G.T.bmain hobj hints (Nat.le_trans hlen hn2) room b2 b1 (fun H hH hS => wt H a ns hlen hH hS)
end My
namespace My
open PySem PySem.Spec PyProof.Rows L2 LamX

theorem ar_srt (a f : Value) : argsOk "sorted" ⟨[a], [(Str.ofString "key", f)]⟩ := by unfold argsOk; kernel_rfl
theorem ar_ls (a f : Value) : argsOk "list.sort" ⟨[a], [(Str.ofString "key", f)]⟩ := by unfold argsOk; kernel_rfl

/-! the key: a lambda that gives the first item of its row -/
theorem first_call {prog : Program} {w : World} {A : Around} {s : Shared} {f c' t : Addr} {q nm : Str} {params : Arguments} {scope : Scope} {pm ctv : Value} {p1 p2 p3 : Pos} {jj : Nat}
    {its : Array Value} {z : Int} {tz : Tok} (room : A.depth < recursionLimit) (nl : s.heap.NoLimit)
    (hf : s.heap.get? f = some (PySem.W.kla_obj "<lambda>" q params (.Subscript (.Name nm p1) (.Constant (.int 0) jj p2) p3) scope [] pm c' ctv))
    (hc : ∃ (oc : Obj) (vs : Array Value) (tq : Tok), s.heap.get? c' = some oc ∧ oc.data = .fields vs ∧ vs[1]? = some (.str q tq))
    (kk : scope.kind = .function) (k2 : scope.isCoroutine = false) (k3 : scope.isGenerator = false) (names : scope.names = [(nm, .local)])
    (hd : (nm == ("__debug__" : Str)) = false)
    (hbind : ∀ (q : Str) (cl : List (Str × Addr)) (pm cv ctv v : Value), bindArgs (PySem.W.kla_fn "<lambda>" q params (.Subscript (.Name nm p1) (.Constant (.int 0) jj p2) p3) scope cl pm cv ctv) ⟨[v], []⟩ = pure [(nm, v)])
    (ht : IsTup s.heap t its) (h0 : its[0]? = some (.int z tz)) :
    wpAny (model prog w) A (call (.ref f) [.ref t]) (PySem.W.KeyPure (.int z) s) (fun _ _ => False) s := by
  obtain ⟨oc, vs, tq, c1, c2, c3⟩ := hc
  refine wpAny_call ?_
  refine PySem.W.kla_callFunE room hf rfl k2 k3 rfl ⟨c', oc, vs, tq, rfl, c1, c2, c3⟩ ?_
  rw [hbind]
  refine wpAny_pure ?_
  refine wpAny_newFunctionEnv ?_ ?_ ?_ kk
  · intro x hx z
    rw [names] at hx
    have e : x = (nm, .local) := by simpa using hx
    rw [e] at z
    cases z
  · intro x hx
    have e : x = (nm, .ref t) := by simpa using hx
    rw [e, names]
    simp
  intro h1 hns hsb
  have kp : ∀ b o, s.heap.get? b = some o → h1.get? b = some o := fun b o e => hsb.extBut b o (Nat.ne_of_lt (Heap.lt_size e)) (Heap.get?_push_of_some _ e)
  refine ⟨nl.fresh _ hsb, ?_⟩
  refine PySem.W.kla_codeExpr ?_
  have look : ([(nm, Value.ref t)] : List (Str × Value)).reverse.lookup nm = some (.ref t) := by simp
  refine Subscript_ (wpAny_Name (wpAny_loadName_local kk ?_ hns look ?_) hd)
  · show scope.names.lookup nm = some .local
    rw [names]
    simp
  refine wpAny_Constant_int ?_
  have ht1 : IsTup h1 t its := by
    obtain ⟨ob, e, r⟩ := ht
    exact ⟨ob, kp _ _ e, r⟩
  have lt0 : 0 < its.size := by
    rcases Nat.lt_or_ge 0 its.size with y | y
    · exact y
    · rw [Array.getElem?_eq_none y] at h0
      cases h0
  refine subscriptTail_builtinR (x := .int z tz) ht1.typeIs slot_tuple_getitem.lookup ?_
  refine PyProof.Rows.getItem_tuple ht1 (by decide) (by decide) (PySem.seqIndex_of (k := 0) (n := its.size) (by decide) (by omega)) h0 ⟨rfl, ?_⟩
  exact ⟨h1, _, rfl, kp, .int z tz⟩

def tSrt (K : PySem.W.Frag) (T : List (Addr × Str)) (ta : TA) : TE := fun sg H Q => ta sg H fun vs H1 => ∃ (a : Addr) (xs : List V) (kf : V → Int), vs = [.ref a] ∧ SqL K H1 a xs ∧ Tabs T H1 ∧ xs.length ≤ 4000 ∧
  (∀ v ∈ xs, ∃ t r, v = .ref t ∧ H1 t = some (.tup (.int (kf v) :: r))) ∧
  ∀ (ys : List V) (p : Addr) (H2 : Hp), ys.Perm xs → ys.Pairwise (fun x y => kf x ≤ kf y) → ExtN H1 H2 → Tabs T H2 → H2 p = none → Q (.ref p) (upd H2 p (.lst ys))
theorem each_vals {α : Type} {R : Value → V → Prop} (hR : ∀ u v, RelV v u → R u v) : ∀ {xs : List V} {us : List Value}, Vals xs us → PySem.W.EachIs R us xs
  | _, _, .nil => .nil
  | _, _, .cons r t => .cons (hR _ _ r) (each_vals (α := α) hR t)
theorem vals_each {R : Value → V → Prop} (hR : ∀ u v, R u v → RelV v u) : ∀ {xs : List V} {us : List Value}, PySem.W.EachIs R us xs → Vals xs us
  | _, _, .nil => .nil
  | _, _, .cons r t => .cons (hR _ _ r) (vals_each hR t)
theorem pe_srt {X : Cx} {T : List (Addr × Str)} {c P : Addr} {p pos kpos lpos : Pos} {e : Expr} {ta : TA} {params : Arguments} {scope : Scope} {nm : Str} {p1 p2 p3 : Pos} {jj : Nat}
    (hg : Gl X "sorted") (hm : X.mg "sorted" = none) (ha : PA X [e] ta) (TB : TabB X.base X.mg c P) (hcode : X.env.code = .ref c)
    (hmem : (P, X.env.qual ++ "<lambda>") ∈ T) (hu : ∀ p ∈ T, p.1 = P → p.2 = X.env.qual ++ "<lambda>") (room : Room 2 X.A) (hdef : defaultsOf params X.env = ([], []))
    (kk : scope.kind = .function) (k2 : scope.isCoroutine = false) (k3 : scope.isGenerator = false) (names : scope.names = [(nm, .local)]) (hd : (nm == ("__debug__" : Str)) = false)
    (hbind : ∀ (q : Str) (cl : List (Str × Addr)) (pm cv ctv v : Value), bindArgs (PySem.W.kla_fn "<lambda>" q params (.Subscript (.Name nm p1) (.Constant (.int 0) jj p2) p3) scope cl pm cv ctv) ⟨[v], []⟩ = pure [(nm, v)])
    (he : backTo pos (starEach [e] X.env) = (false, eval e X.env) :: backTo pos (starEach [] X.env) := by rfl) (hpl : (backTo pos (starEach [e] X.env)).any (·.1) = false := by rfl)
    (hall : (backToKw pos (keywordEach [⟨some "key", .Lambda params (.Subscript (.Name nm p1) (.Constant (.int 0) jj p2) p3) scope lpos, kpos⟩] X.env)).all (·.1.isSome) = true := by rfl)
    (hnone : (backToKw pos (keywordEach [⟨some "key", .Lambda params (.Subscript (.Name nm p1) (.Constant (.int 0) jj p2) p3) scope lpos, kpos⟩] X.env)).any (·.1.isNone) = false := by rfl)
    (hks : (backToKw pos (keywordEach [⟨some "key", .Lambda params (.Subscript (.Name nm p1) (.Constant (.int 0) jj p2) p3) scope lpos, kpos⟩] X.env)).filterMap (·.1) = [Str.ofString "key"] := by rfl) :
    PE X (.Call (.Name "sorted" p) [e] [⟨some "key", .Lambda params (.Subscript (.Name nm p1) (.Constant (.int 0) jj p2) p3) scope lpos, kpos⟩] pos) (tSrt X.K T ta) := by
  refine ⟨fun pins s sg H Q I want => ?_⟩
  refine wpAny_Call_Name_kw (ld_blt I hg hm (by decide +kernel : bootBuiltins "sorted" = some (.builtin "sorted")) ?_)
  refine PyProof.Rows.callWith_kw (thn (ha.run pos pins s sg H _ I want) ?_) he hpl hall hnone
  rintro us s1 ⟨vs, H1, I1, rv, a, xs, kf, rfl, hq, hT, hlen, hrow, q⟩
  obtain ⟨u, rfl, ru⟩ := rv.one
  have ru' : u = Value.ref a := ru
  subst ru'
  rw [hks]
  show wpAny _ _ (evalAll ((do let v ← eval (.Lambda params (.Subscript (.Name nm p1) (.Constant (.int 0) jj p2) p3) scope lpos) X.env; standAt pos; pure v) :: [])) _ _ s1
  refine wpAny_evalAll_cons (wpAny_bind ?_)
  have nofree : ∀ y ∈ scope.names, y.2 = .free → ∃ c, X.env.cells.lookup y.1 = some c := by
    intro y hy z
    rw [names] at hy
    have ey : y = (nm, .local) := by simpa using hy
    rw [ey] at z
    cases z
  refine lam_make2 I1 TB hcode hmem hu hT hdef nofree ?_
  intro f c' pm ctv H2 s2 I2 ext T2 hf hfn hfr hco
  refine wpAny_bind (wpAny_standAt (wpAny_pure (wpAny_evalAll_nil ?_)))
  have noclo : cloFrom X.env.cells scope.names [] = [] := by rw [names]; rfl
  rw [noclo] at hf
  have keepL : SqL X.K H2 a xs := by
    rcases hq with (h | ⟨o, h⟩) | h
    · exact Or.inl (Or.inl (ext _ _ h (fun ps z => nomatch z)))
    · exact Or.inl (Or.inr ⟨o, ext _ _ h (fun ps z => nomatch z)⟩)
    · exact Or.inr h
  have rowAt : ∀ v ∈ xs, ∃ t r, v = .ref t ∧ H2 t = some (.tup (.int (kf v) :: r)) := by
    intro v hv
    obtain ⟨t, r, e1, e2⟩ := hrow v hv
    exact ⟨t, r, e1, ext _ _ e2 (fun ps z => nomatch z)⟩
  obtain ⟨its, rv2, pl, hz⟩ := I2.list keepL
  obtain ⟨⟨oc, ovs, tq, c1, c2, c3⟩, _, _⟩ := I2.hok c' _ hco
  show wpAny _ _ (call (.builtin "sorted") [.ref a] [(Str.ofString "key", .ref f)]) _ _ s2
  have alike1 : ∀ x y : Int, PySem.W.alike (.int x) (.int y) = true := fun x y => by simp [PySem.W.alike]
  refine PySem.W.sorted_key_data (b := false) (R := fun u v => RelV v u) (vs := its) (bs := xs) (fun v => PyData.int (kf v)) pl.isList (each_vals (α := Nat) (fun u v r => r) rv2) ?_ ?_ hz ?_
    (ar_srt _ _) (fun x => ar_ls _ _) (fun x => rfl) ?_ ?_
  · intro d hd2 d' hd3
    obtain ⟨v, _, rfl⟩ := List.mem_map.mp hd2
    obtain ⟨v', _, rfl⟩ := List.mem_map.mp hd3
    exact alike1 _ _
  · refine Or.inr ?_
    intro d hd2
    obtain ⟨v, _, rfl⟩ := List.mem_map.mp hd2
    exact ⟨(fun z => nomatch z), (fun xs z => nomatch z)⟩
  · intro x hx
    have h1 := room.un
    have h2 : (PyData.int (kf x)).depth ≤ 2 := by simp [PyData.depth]
    omega
  · intro v x rx hx h tk kp
    obtain ⟨t, r, rfl, hrt⟩ := rowAt x hx
    have ev : v = Value.ref t := rx
    subst ev
    obtain ⟨its2, rv3, pt, _⟩ := I2.tuple (SqT.of hrt)
    obtain ⟨u0, hu0, ru0⟩ := rv3.get (i := 0) rfl
    obtain ⟨tz, rfl⟩ := ru0
    refine first_call (s := { s2 with heap := h, toks := tk }) ?_ (I2.nolimit.keeps kp) (kp _ _ hf) ⟨oc, ovs, tq, kp _ _ c1, c2, c3⟩ kk k2 k3 names hd hbind (its := its2.toArray) (z := kf (.ref t)) (tz := tz) ?_ ?_
    · have h1 := room.dp
      show X.A.depth < recursionLimit
      omega
    · obtain ⟨ob, e, r2⟩ := pt
      exact ⟨ob, kp _ _ e, r2⟩
    · simpa using hu0
  · intro out c h' tk kp fr hD hl each
    have hz2 : (xs.mergeSort (PySem.W.dataLe false fun v => PyData.int (kf v))).length ≤ sizeLine := by rw [List.length_mergeSort]; exact hz
    have rel : Vals (xs.mergeSort (PySem.W.dataLe false fun v => PyData.int (kf v))) out := vals_each (fun u v r => r) each
    have free : H2 (s2.heap.objs.size + 1) = none := I2.hok.fresh (Nat.le_succ _)
    refine ⟨.ref (s2.heap.objs.size + 1), upd H2 (s2.heap.objs.size + 1) (.lst (xs.mergeSort (PySem.W.dataLe false fun v => PyData.int (kf v)))), I2.laid kp (Nat.le_succ _) ⟨hz2, out, c, rel, hD⟩, rfl, ?_⟩
    refine q _ _ H2 (List.mergeSort_perm _ _) ?_ ext T2 free
    rw [PySem.W.dataLe_int]
    have z := List.pairwise_mergeSort (le := fun (a b : V) => decide (kf a ≤ kf b)) (by intro a b c h1 h2; have h3 := of_decide_eq_true h1; have h4 := of_decide_eq_true h2; exact decide_eq_true (by omega))
      (by intro a b; rcases Int.le_total (kf a) (kf b) with h | h <;> simp [h]) xs
    exact z.imp fun h => of_decide_eq_true h
end My
namespace My
open PySem PySem.Spec PyProof.Rows L2

abbrev hd (b : List Int) : Int := b.headD 0
/-! cutting what is put together -/
theorem foldl_put : ∀ (y : List Int) (bs cs : List (List Int)), cs ≠ [] → y.foldl put (bs ++ cs) = bs ++ y.foldl put cs
  | [], _, _, _ => rfl
  | n :: y, bs, cs, h => by
    obtain ⟨ini, l, e⟩ : ∃ ini l, cs = ini ++ [l] := by
      rcases List.eq_nil_or_concat cs with z | ⟨a, b, z⟩
      · exact absurd z h
      · exact ⟨a, b, by rw [z, List.concat_eq_append]⟩
    have e1 : put (bs ++ cs) n = bs ++ put cs n := by
      rw [e, ← List.append_assoc, put_snoc, put_snoc]
      split <;> simp
    have e2 : put cs n ≠ [] := by
      rw [e, put_snoc]
      split <;> simp
    show y.foldl put (put (bs ++ cs) n) = bs ++ y.foldl put (put cs n)
    rw [e1]
    exact foldl_put y bs (put cs n) e2
theorem cut_app {x y : List Int} (h : ∀ m r, y = m :: r → ∀ z ∈ x, z < m) : cut (x ++ y) = cut x ++ cut y := by
  cases y with
  | nil => simp [cut]
  | cons m r =>
    have hx := h m r rfl
    have e1 : put (cut x) m = cut x ++ [[m]] := by
      refine put_new ?_
      rcases (good_cut x).last with e | ⟨ini, k, l, e, hk, _⟩
      · exact Or.inl e
      · exact Or.inr ⟨ini, k, l, e, hx k hk⟩
    have e2 : cut (x ++ m :: r) = r.foldl put (put (cut x) m) := by
      unfold cut
      rw [List.foldl_append]
      rfl
    rw [e2, e1, foldl_put _ _ _ (by simp)]
    rfl
theorem cut_one {h : Int} : ∀ {a : List Int}, (∀ z ∈ a, z ≤ h) → ∀ pre : List Int, a.foldl put [h :: pre] = [h :: pre ++ a]
  | [], _, pre => by simp
  | n :: a, hz, pre => by
    have h1 : ¬ (h :: pre).headD 0 < n := by
      have := hz n (List.mem_cons_self ..)
      show ¬ h < n
      omega
    have e : put [h :: pre] n = [h :: (pre ++ [n])] := by
      have z := put_snoc [] (h :: pre) n
      rw [if_neg h1] at z
      exact z
    show a.foldl put (put [h :: pre] n) = _
    rw [e, cut_one (fun z hz2 => hz z (List.mem_cons_of_mem _ hz2)) (pre ++ [n])]
    simp
theorem cut_blk {h : Int} {a : List Int} (hz : ∀ z ∈ a, z ≤ h) : cut (h :: a) = [h :: a] := by
  have := cut_one hz []
  simpa [cut, put] using this
def lowr (h : Int) (t : List Int) : List Int := t.takeWhile fun z => decide (z ≤ h)
def uppr (h : Int) (t : List Int) : List Int := t.dropWhile fun z => decide (z ≤ h)
theorem low_up (h : Int) (t : List Int) : lowr h t ++ uppr h t = t := List.takeWhile_append_dropWhile
theorem low_le {h : Int} {t : List Int} : ∀ z ∈ lowr h t, z ≤ h := by
  induction t with
  | nil => intro z hz; simp [lowr] at hz
  | cons x t ih =>
    intro z hz
    unfold lowr at hz ih
    by_cases hx : x ≤ h
    · rw [List.takeWhile_cons_of_pos (by simpa using hx)] at hz
      rcases List.mem_cons.mp hz with e | e
      · rw [e]; exact hx
      · exact ih z e
    · rw [List.takeWhile_cons_of_neg (by simpa using hx)] at hz
      cases hz
theorem up_gt {h : Int} {t : List Int} : ∀ m r, uppr h t = m :: r → h < m := by
  induction t with
  | nil => intro m r e; simp [uppr] at e
  | cons x t ih =>
    intro m r e
    unfold uppr at e ih
    by_cases hx : x ≤ h
    · rw [List.dropWhile_cons_of_pos (by simpa using hx)] at e
      exact ih m r e
    · rw [List.dropWhile_cons_of_neg (by simpa using hx)] at e
      have := (List.cons.inj e).1
      omega
theorem up_len (h : Int) (t : List Int) : (uppr h t).length ≤ t.length := by
  have e := congrArg List.length (low_up h t)
  rw [List.length_append] at e
  omega
theorem cut_cons (h : Int) (t : List Int) : cut (h :: t) = (h :: lowr h t) :: cut (uppr h t) := by
  have e : h :: t = (h :: lowr h t) ++ uppr h t := by
    show h :: t = h :: (lowr h t ++ uppr h t)
    rw [low_up]
  rw [e, cut_app ?_, cut_blk low_le]
  · rfl
  · intro m r em z hz
    have hm := up_gt m r em
    rcases List.mem_cons.mp hz with e2 | e2
    · omega
    · have := low_le z e2
      omega
theorem cut_low (h : Int) (t : List Int) : cut t = cut (lowr h t) ++ cut (uppr h t) := by
  have e := low_up h t
  have := cut_app (x := lowr h t) (y := uppr h t) (fun m r em z hz => by
    have := up_gt m r em
    have := low_le z hz
    omega)
  rw [e] at this
  exact this
/-- the blocks of a list: heads ascend, each is the greatest of its block, none is less than the first number -/
theorem cut_facts : ∀ (n : Nat) (q : List Int), q.length ≤ n → (cut q).Pairwise (fun x y => hd x < hd y) ∧ (∀ b ∈ cut q, b ≠ [] ∧ ∀ x ∈ b, x ≤ hd b) ∧ ∀ b ∈ cut q, hd q ≤ hd b
  | 0, q, hn => by
    have e : q = [] := List.eq_nil_of_length_eq_zero (by omega)
    subst e
    simp [cut]
  | n + 1, [], hn => by simp [cut]
  | n + 1, h :: t, hn => by
    have hlen := up_len h t
    obtain ⟨i1, i2, i3⟩ := cut_facts n (uppr h t) (by rw [List.length_cons] at hn; omega)
    have above : ∀ b ∈ cut (uppr h t), h < hd b := by
      intro b hb
      have h3 := i3 b hb
      cases e : uppr h t with
      | nil => rw [e] at hb; simp [cut] at hb
      | cons m r =>
        have := up_gt m r e
        rw [e] at h3
        have h4 : m ≤ hd b := h3
        omega
    rw [cut_cons]
    refine ⟨List.pairwise_cons.mpr ⟨above, i1⟩, ?_, ?_⟩
    · intro b hb
      rcases List.mem_cons.mp hb with e | e
      · subst e
        refine ⟨by simp, fun x hx => ?_⟩
        rcases List.mem_cons.mp hx with e2 | e2
        · rw [e2]; exact Int.le_refl _
        · exact low_le x e2
      · exact i2 b e
    · intro b hb
      rcases List.mem_cons.mp hb with e | e
      · subst e; exact Int.le_refl _
      · have := above b e
        show h ≤ hd b
        omega
theorem cut_asc (q : List Int) : (cut q).Pairwise (fun x y => hd x < hd y) := (cut_facts q.length q (Nat.le_refl _)).1
theorem cut_mem {q b : List Int} (h : b ∈ cut q) : b ≠ [] ∧ ∀ x ∈ b, x ≤ hd b := (cut_facts q.length q (Nat.le_refl _)).2.1 b h
theorem cut_ge {q b : List Int} (h : b ∈ cut q) : hd q ≤ hd b := (cut_facts q.length q (Nat.le_refl _)).2.2 b h
theorem hd_mem {b : List Int} (h : b ≠ []) : hd b ∈ b := by
  cases b with
  | nil => exact absurd rfl h
  | cons x r => exact List.mem_cons_self ..
/-- blocks put together in ascending order are cut again into the same -/
theorem cut_flat : ∀ {bs : List (List Int)}, (∀ b ∈ bs, b ≠ [] ∧ ∀ x ∈ b, x ≤ hd b) → bs.Pairwise (fun x y => hd x < hd y) → cut bs.flatten = bs
  | [], _, _ => rfl
  | b :: bs, h, p => by
    obtain ⟨ne, mx⟩ := h b (List.mem_cons_self ..)
    obtain ⟨p1, p2⟩ := List.pairwise_cons.mp p
    cases b with
    | nil => exact absurd rfl ne
    | cons k r =>
      rw [List.flatten_cons, cut_app ?_, cut_flat (fun c hc => h c (List.mem_cons_of_mem _ hc)) p2, cut_blk]
      · rfl
      · exact fun z hz => mx z (List.mem_cons_of_mem _ hz)
      · intro m s em z hz
        cases bs with
        | nil => cases em
        | cons c cs =>
          obtain ⟨nc, _⟩ := h c (List.mem_cons_of_mem _ (List.mem_cons_self ..))
          have hc := p1 c (List.mem_cons_self ..)
          cases c with
          | nil => exact absurd rfl nc
          | cons k2 r2 =>
            have e : k2 = m := by
              rw [List.flatten_cons] at em
              exact (List.cons.inj em).1
            have h1 := mx z hz
            have h2 : k < k2 := hc
            have h3 : z ≤ k := h1
            omega
/-! sorting by the first number -/
def bySm {α : Type} (g : α → Int) (l : List α) : List α := l.mergeSort fun a b => decide (g a ≤ g b)
theorem by_perm {α : Type} (g : α → Int) (l : List α) : (bySm g l).Perm l := List.mergeSort_perm _ _
theorem by_sorted {α : Type} (g : α → Int) (l : List α) : (bySm g l).Pairwise fun a b => g a ≤ g b := by
  have z := List.pairwise_mergeSort (le := fun (a b : α) => decide (g a ≤ g b)) (by intro a b c h1 h2; have h3 := of_decide_eq_true h1; have h4 := of_decide_eq_true h2; exact decide_eq_true (by omega))
    (by intro a b; rcases Int.le_total (g a) (g b) with h | h <;> simp [h]) l
  exact z.imp fun h => of_decide_eq_true h
theorem sort_one {α : Type} {g : α → Int} : ∀ {xs ys : List α}, xs.Perm ys → (xs.map g).Nodup → xs.Pairwise (fun a b => g a ≤ g b) → ys.Pairwise (fun a b => g a ≤ g b) → xs = ys
  | [], ys, p, _, _, _ => (List.nil_perm.mp p).symm ▸ rfl
  | x :: xs, [], p, _, _, _ => absurd (List.perm_nil.mp p) (by simp)
  | x :: xs, y :: ys, p, nd, s1, s2 => by
    obtain ⟨a1, a2⟩ := List.pairwise_cons.mp s1
    obtain ⟨b1, b2⟩ := List.pairwise_cons.mp s2
    rw [List.map_cons] at nd
    obtain ⟨n1, n2⟩ := List.nodup_cons.mp nd
    have e : x = y := by
      have hx : x ∈ y :: ys := p.mem_iff.mp (List.mem_cons_self ..)
      have hy : y ∈ x :: xs := p.mem_iff.mpr (List.mem_cons_self ..)
      rcases List.mem_cons.mp hx with z | z
      · exact z
      · rcases List.mem_cons.mp hy with w | w
        · exact w.symm
        · have h1 := b1 x z
          have h2 := a1 y w
          have h3 : g y = g x := by omega
          exact absurd (List.mem_map.mpr ⟨y, w, h3⟩) n1
    subst e
    rw [sort_one (List.Perm.cons_inv p) n2 a2 b2]
theorem by_one {α : Type} {g : α → Int} {l ys : List α} (p : ys.Perm l) (nd : (l.map g).Nodup) (s : ys.Pairwise fun a b => g a ≤ g b) : ys = bySm g l :=
  sort_one (p.trans (by_perm g l).symm) ((p.map g).nodup_iff.mpr nd) s (by_sorted g l)
/-! merging -/
def cuts (qs : List (List Int)) : List (List Int) := qs.flatMap cut
def mrg (qs : List (List Int)) : List Int := (bySm hd (cuts qs)).flatten
theorem heads_sub : ∀ {bs : List (List Int)}, (∀ b ∈ bs, b ≠ []) → (bs.map hd).Sublist bs.flatten
  | [], _ => List.Sublist.refl _
  | [] :: bs, h => absurd rfl (h [] (List.mem_cons_self ..))
  | (x :: r) :: bs, h => by
    have ih := heads_sub (bs := bs) fun b hb => h b (List.mem_cons_of_mem _ hb)
    show (x :: bs.map hd).Sublist (x :: (r ++ bs.flatten))
    exact (ih.trans (List.sublist_append_right _ _)).cons_cons x
theorem cuts_flat : ∀ qs : List (List Int), (cuts qs).flatten = qs.flatten
  | [] => rfl
  | q :: qs => by
    show (cut q ++ cuts qs).flatten = q ++ qs.flatten
    rw [List.flatten_append, (good_cut q).flat, cuts_flat qs]
theorem cuts_mem {qs : List (List Int)} {b : List Int} (h : b ∈ cuts qs) : ∃ q ∈ qs, b ∈ cut q := by
  obtain ⟨q, hq, hb⟩ := List.mem_flatMap.mp h
  exact ⟨q, hq, hb⟩
theorem cuts_nd {qs : List (List Int)} (nd : qs.flatten.Nodup) : ((cuts qs).map hd).Nodup := by
  have h := heads_sub (bs := cuts qs) fun b hb => by
    obtain ⟨q, _, hq⟩ := cuts_mem hb
    exact (cut_mem hq).1
  rw [cuts_flat] at h
  exact nd.sublist h
theorem mrg_perm (qs : List (List Int)) : (mrg qs).Perm qs.flatten := by
  have h := (by_perm hd (cuts qs)).flatten
  rw [cuts_flat] at h
  exact h
theorem mrg_step {pre post : List (List Int)} {h : Int} {t : List Int} (nd : (pre ++ (h :: t) :: post).flatten.Nodup) (least : ∀ q, q ∈ pre ∨ q ∈ post → q ≠ [] → h < hd q) :
    mrg (pre ++ (h :: t) :: post) = h :: mrg (pre ++ t :: post) := by
  have nd2 : (pre ++ t :: post).flatten.Nodup := by
    refine nd.sublist ?_
    rw [List.flatten_append, List.flatten_append, List.flatten_cons, List.flatten_cons]
    exact List.Sublist.append (List.Sublist.refl _) (List.Sublist.append ((List.Sublist.refl t).cons h) (List.Sublist.refl _))
  have c1 : cuts (pre ++ (h :: t) :: post) = cuts pre ++ ((h :: lowr h t) :: cut (uppr h t)) ++ cuts post := by
    unfold cuts
    rw [List.flatMap_append, List.flatMap_cons, cut_cons, List.append_assoc]
  have c2 : cuts (pre ++ t :: post) = cuts pre ++ (cut (lowr h t) ++ cut (uppr h t)) ++ cuts post := by
    unfold cuts
    rw [List.flatMap_append, List.flatMap_cons, cut_low h t]
    simp only [List.append_assoc]
  have above : ∀ b ∈ cuts pre ++ cut (uppr h t) ++ cuts post, h < hd b := by
    have out : ∀ q b, (q ∈ pre ∨ q ∈ post) → b ∈ cut q → h < hd b := by
      intro q b hq hb
      have ne : q ≠ [] := by
        intro z
        rw [z] at hb
        simp [cut] at hb
      have := least q hq ne
      have := cut_ge hb
      omega
    intro b hb
    rcases List.mem_append.mp hb with z | z
    · rcases List.mem_append.mp z with y | y
      · obtain ⟨q, hq, hb2⟩ := cuts_mem y
        exact out q b (Or.inl hq) hb2
      · have h3 := cut_ge y
        cases e : uppr h t with
        | nil => rw [e] at y; simp [cut] at y
        | cons m r =>
          have := up_gt m r e
          rw [e] at h3
          have h4 : m ≤ hd b := h3
          omega
    · obtain ⟨q, hq, hb2⟩ := cuts_mem z
      exact out q b (Or.inr hq) hb2
  have po := by_perm hd (cuts pre ++ cut (uppr h t) ++ cuts post)
  have so := by_sorted hd (cuts pre ++ cut (uppr h t) ++ cuts post)
  have e1 : (h :: lowr h t) :: bySm hd (cuts pre ++ cut (uppr h t) ++ cuts post) = bySm hd (cuts (pre ++ (h :: t) :: post)) := by
    refine by_one ?_ (cuts_nd nd) ?_
    · rw [c1]
      refine (List.Perm.cons _ po).trans ?_
      rw [List.append_assoc, List.append_assoc]
      exact List.perm_middle.symm
    · refine List.pairwise_cons.mpr ⟨fun b hb => ?_, so⟩
      have := above b (po.mem_iff.mp hb)
      show h ≤ hd b
      omega
  have e2 : cut (lowr h t) ++ bySm hd (cuts pre ++ cut (uppr h t) ++ cuts post) = bySm hd (cuts (pre ++ t :: post)) := by
    refine by_one ?_ (cuts_nd nd2) ?_
    · rw [c2]
      refine (List.Perm.append_left _ po).trans ?_
      rw [← List.append_assoc, ← List.append_assoc, ← List.append_assoc]
      refine List.Perm.append_right _ ?_
      refine List.Perm.append_right _ ?_
      exact List.perm_append_comm
    · refine List.pairwise_append.mpr ⟨(cut_asc _).imp fun z => Int.le_of_lt z, so, fun a ha b hb => ?_⟩
      have h1 := above b (po.mem_iff.mp hb)
      have h2 : hd a ≤ h := by
        have hmem : hd a ∈ lowr h t := by
          have := (good_cut (lowr h t)).flat
          rw [← this]
          exact List.mem_flatten.mpr ⟨a, ha, hd_mem (cut_mem ha).1⟩
        exact low_le _ hmem
      omega
  unfold mrg
  rw [← e1, ← e2, List.flatten_cons, List.flatten_append, (good_cut (lowr h t)).flat]
  rfl
theorem mrg_none {qs : List (List Int)} (h : ∀ q ∈ qs, q = []) : mrg qs = [] := by
  have e : cuts qs = [] := by
    unfold cuts
    exact List.flatMap_eq_nil_iff.mpr fun q hq => by rw [h q hq]; rfl
  unfold mrg bySm
  rw [e]
  simp
theorem cut_mrg {qs : List (List Int)} (nd : qs.flatten.Nodup) : cut (mrg qs) = bySm hd (cuts qs) := by
  refine cut_flat ?_ ?_
  · intro b hb
    obtain ⟨q, _, hq⟩ := cuts_mem ((by_perm hd (cuts qs)).mem_iff.mp hb)
    exact cut_mem hq
  · have n1 : ((bySm hd (cuts qs)).map hd).Nodup := ((by_perm hd (cuts qs)).map hd).nodup_iff.mpr (cuts_nd nd)
    have n2 := List.pairwise_map.mp n1
    exact (List.pairwise_and_iff.mpr ⟨by_sorted hd (cuts qs), n2⟩).imp fun z => by
      obtain ⟨z1, z2⟩ := z
      omega
end My
namespace My
open PySem PySem.Spec PyProof.Rows L2
/-! sorted of whole numbers, any length -/
def rSortA (K : PySem.W.Frag) : List V → Hp → VK → Prop := fun vs H Q => ∃ (a : Addr) (ns : List Int), vs = [V.ref a] ∧ SqL K H a (ns.map V.int) ∧
  ∀ (ns' : List Int) (p : Addr), ns'.Perm ns → ns'.Pairwise (· ≤ ·) → H p = none → Q (.ref p) (upd H p (.lst (ns'.map V.int)))
theorem cr_sortA {X : Cx} : CallR X (.builtin "sorted") (rSortA X.K) := by
  intro pins s σ H vs us Q I r h
  obtain ⟨a, ns, rfl, hs, q⟩ := h
  obtain ⟨its, rv, hl, hz⟩ := I.list hs
  rw [Vals.ref1 r]
  have hi := rv.ints
  have hlz : its.length ≤ sizeLine := by rw [hi.length]; rwa [List.length_map] at hz
  refine PyProof.Rows.sorted_intsAny hl.isList hi hlz fun out ns' h1 h2 h3 => ?_
  obtain ⟨ep, he'⟩ := PyProof.Rows.sortedAll_at s.heap its out
  have hlen : (ns'.map V.int).length ≤ sizeLine := by rw [List.length_map, h2.length_eq]; rwa [List.length_map] at hz
  exact ⟨.ref _, upd H (s.heap.objs.size + 1) (.lst (ns'.map V.int)), I.laid (t' := s.toks) (fun _ _ => PyProof.Rows.sortedAll_old) (Nat.le_succ _) ⟨hlen, out.toList, ep, vals_of_ints h1, he'⟩, rfl, q ns' _ h2 h3 (I.hok.fresh (Nat.le_succ _))⟩
/-! list(range(n)) -/
theorem cr_range1 {X : Cx} : CallR X (.type "range") (fun vs H Q => ∃ j, vs = [V.int j] ∧ ∀ p, H p = none → Q (.ref p) (upd H p (.rng 0 j))) := by
  intro pins s σ H vs us Q I r h
  obtain ⟨j, rfl, q⟩ := h
  obtain ⟨u, rfl, ru⟩ := vals1 r
  obtain ⟨t, rfl⟩ := ru
  refine call_range_1 ⟨.ref s.heap.objs.size, upd H s.heap.objs.size (.rng 0 j), I.laid (t' := s.toks + 1 + 1) (fun b o e => Heap.get?_push_of_some _ e) (Nat.le_refl _) ?_, rfl, q _ (I.hok.fresh (Nat.le_refl _))⟩
  exact ⟨s.toks, t, s.toks + 1, Heap.get?_push_size _ rfl⟩
theorem vals_ix {P : Nat → Value → Prop} {g : Nat → V} (hg : ∀ i v, P i v → RelV (g i) v) : ∀ (us : List Value) (k : Nat), (∀ j v, us[j]? = some v → P (k + j) v) → Vals ((List.range us.length).map fun i => g (k + i)) us
  | [], _, _ => .nil
  | u :: us, k, h => by
    rw [List.length_cons, List.range_succ_eq_map, List.map_cons, List.map_map]
    refine .cons (hg _ _ (h 0 u rfl)) ?_
    have ih := vals_ix hg us (k + 1) fun j v e => by
      have := h (j + 1) v e
      rwa [show k + 1 + j = k + (j + 1) by omega]
    have e : ((fun i => g (k + i)) ∘ Nat.succ) = fun i => g (k + 1 + i) := by
      funext i
      show g (k + (i + 1)) = g (k + 1 + i)
      rw [show k + (i + 1) = k + 1 + i by omega]
    rw [e]
    exact ih
def rListR : List V → Hp → VK → Prop := fun xs H Q => ∃ (r : Addr) (n : Nat), xs = [.ref r] ∧ H r = some (.rng 0 (n : Int)) ∧ n ≤ 100000 ∧ ∀ l, H l = none → Q (.ref l) (upd H l (.lst ((List.range n).map fun i : Nat => V.int (i : Int))))
theorem call_listR {X : Cx} (hc : X.calm = true) : CallR X (.type "list") rListR := by
  intro pins s σ H xs us Q I r h
  obtain ⟨ra, n, rfl, hr, hn, q⟩ := h
  obtain ⟨u, rfl, ru⟩ := vals1 r
  obtain rfl : u = Value.ref ra := ru
  obtain ⟨t1, t2, t3, ho⟩ := I.hok ra _ hr
  have esz : Builtin.Range.rangeSize 0 (n : Int) 1 = ((n : Nat) : Int) := by rw [PyProof.Rows.rangeSize_nat]; omega
  have fit : ∀ x : Int, -1000000 ≤ x → x ≤ 1000000 → Builtin.Range.rangeFitsLong x = true := by
    intro x h1 h2
    unfold Builtin.Range.rangeFitsLong
    simp
    omega
  have sm : Builtin.Range.small 0 (n : Int) 1 = true := by
    unfold Builtin.Range.small
    rw [esz, fit 0 (by omega) (by omega), fit n (by omega) (by omega), fit 1 (by omega) (by omega)]
    have e : (n : Int) + (1 - 1) = n := by omega
    rw [if_pos (by decide), e, fit n (by omega) (by omega)]
    simp
  refine call_list_range (I.ok.hd hc) (a := 0) (b := (n : Int)) (c := 1) (n := n) ho sm esz (by omega) fun h' tk acc' c' kp e hac => ?_
  have esz2 : acc'.toList.length = n := hac.1
  have rel : Vals ((List.range n).map fun i : Nat => V.int (i : Int)) acc'.toList := by
    have z := vals_ix (P := fun i v => ∃ t, v = .int (0 + (i : Int) * 1) t) (g := fun i : Nat => V.int (i : Int)) (fun i v ⟨t, hv⟩ => ⟨t, by rw [hv, Int.zero_add, Int.mul_one]⟩) acc'.toList 0 fun j v hj => by
      rw [Nat.zero_add]
      exact hac.2 j v (by simpa using hj)
    rw [esz2] at z
    have e2 : (fun i : Nat => V.int (((0 + i : Nat)) : Int)) = fun i : Nat => V.int (i : Int) := by funext i; rw [Nat.zero_add]
    rw [e2] at z
    exact z
  have hz : ((List.range n).map fun i : Nat => V.int (i : Int)).length ≤ sizeLine := by
    rw [List.length_map, List.length_range]
    unfold sizeLine; omega
  exact ⟨.ref s.heap.objs.size, _, I.laid (t' := tk) kp (Nat.le_refl _) (show ObjOk X.prog X.w _ h' _ (.lst _) from ⟨hz, acc'.toList, c', rel, by simpa using e⟩), rfl, q _ (I.hok.fresh (Nat.le_refl _))⟩
end My
namespace My
open PySem PySem.Spec PyProof.Rows L2
/-! sorted of rows of whole numbers -/
abbrev Zr := Addr × List Int
def zref (z : Zr) : V := .ref z.1
def rSortRows (K : PySem.W.Frag) : List V → Hp → VK → Prop := fun vs H Q => ∃ (a : Addr) (zs : List Zr), vs = [V.ref a] ∧ SqL K H a (zs.map zref) ∧ (∀ z ∈ zs, H z.1 = some (.lst (z.2.map V.int))) ∧
  ∀ (ys : List Zr) (p : Addr), ys.Perm zs → ys.Pairwise (fun x y => x.2 ≤ y.2) → H p = none → Q (.ref p) (upd H p (.lst (ys.map zref)))
def Rz (v : Value) (z : Zr) : Prop := v = .ref z.1
theorem each_z : ∀ {zs : List Zr} {us : List Value}, Vals (zs.map zref) us → PySem.W.EachIs Rz us zs
  | [], _, .nil => .nil
  | z :: zs, _, .cons r t => .cons r (each_z t)
theorem z_each : ∀ {zs : List Zr} {us : List Value}, PySem.W.EachIs Rz us zs → Vals (zs.map zref) us
  | _, _, .nil => .nil
  | _, _, .cons r t => .cons r (z_each t)
theorem each_reads {X : Cx} {pins : List (Addr × Obj)} {σ : L2.St} {H : Hp} {s : Shared} (I : Inv X pins σ H s) : ∀ {zs : List Zr} {us : List Value}, PySem.W.EachIs Rz us zs → (∀ z ∈ zs, H z.1 = some (.lst (z.2.map V.int))) →
    PySem.W.EachIs (fun v (z : Zr) => ∃ as, Reads s.heap v (.list (z.2.map .int)) as) us zs
  | _, _, .nil, _ => .nil
  | _, _, .cons (b := z) r t, h => .cons (by
      have e := h z (List.mem_cons_self ..)
      exact Dp.reads I _ (.ref z.1) _ (dpI (ns := z.2) (SqL.of e)) r) (each_reads I t fun y hy => h y (List.mem_cons_of_mem _ hy))
theorem cr_sortRows {X : Cx} (hu : X.A.units + 64 < cLine) : CallR X (.builtin "sorted") (rSortRows X.K) := by
  intro pins s σ H vs us Q I r h
  obtain ⟨a, zs, rfl, hs, hrow, q⟩ := h
  obtain ⟨its, rv, hl, hz⟩ := I.list hs
  rw [Vals.ref1 r]
  have ea := each_z rv
  rw [List.length_map] at hz
  refine PySem.W.sorted_data (R := Rz) (enc := fun z : Zr => PyData.list (z.2.map .int)) hl.isList ea (each_reads I ea hrow) ?_ ?_ hz ?_ fun out hlo ho => ?_
  · refine PySem.W.AllAlike.of fun b b' => ?_
    show PySem.W.alike (.list _) (.list _) = true
    simp only [PySem.W.alike]
    exact PySem.W.alike_ints _ _
  · exact PySem.W.Sortable.others fun b => ⟨(fun z => nomatch z), (fun xs z => nomatch z)⟩
  · intro b hb
    have := dI_depth b.2
    have e : (PyData.list (b.2.map .int)).depth = (dI b.2).depth := rfl
    omega
  · obtain ⟨ep, he'⟩ := PyProof.Rows.sortedAll_at s.heap its out.toArray
    have hlen : ((zs.mergeSort (PySem.W.dataLe false fun z : Zr => PyData.list (z.2.map .int))).map zref).length ≤ sizeLine := by rw [List.length_map, List.length_mergeSort]; exact hz
    have free : H (s.heap.objs.size + 1) = none := I.hok.fresh (Nat.le_succ _)
    refine ⟨.ref _, upd H (s.heap.objs.size + 1) (.lst ((zs.mergeSort (PySem.W.dataLe false fun z : Zr => PyData.list (z.2.map .int))).map zref)), I.laid (t' := s.toks) (fun _ _ => PyProof.Rows.sortedAll_old) (Nat.le_succ _) ⟨hlen, out, ep, z_each ho, by simpa using he'⟩, rfl, q _ _ (List.mergeSort_perm _ _) ?_ free⟩
    rw [PySem.W.dataLe_rows]
    have z := List.pairwise_mergeSort (le := fun (a b : Zr) => decide (a.2 ≤ b.2)) (by intro a b c h1 h2; exact decide_eq_true (List.le_trans (of_decide_eq_true h1) (of_decide_eq_true h2)))
      (by intro a b; rcases List.le_total a.2 b.2 with h | h <;> simp [h]) zs
    exact z.imp fun h => of_decide_eq_true h
/-! rows cut off, turned around -/
theorem Rws.take {H : Hp} {qs : List Addr} {bs : List (List V)} (R : Rws H qs bs) (j : Nat) : Rws H (qs.take j) (bs.take j) := by
  refine ⟨by rw [List.length_take, List.length_take, R.len], R.nd.sublist (List.take_sublist ..), fun i q b e1 e2 => ?_⟩
  rw [List.getElem?_take] at e1 e2
  split at e1
  · rename_i h
    rw [if_pos h] at e2
    exact R.get i q b e1 e2
  · cases e1
theorem Rws.drop {H : Hp} {qs : List Addr} {bs : List (List V)} (R : Rws H qs bs) (j : Nat) : Rws H (qs.drop j) (bs.drop j) := by
  refine ⟨by rw [List.length_drop, List.length_drop, R.len], R.nd.sublist (List.drop_sublist ..), fun i q b e1 e2 => ?_⟩
  rw [List.getElem?_drop] at e1 e2
  exact R.get _ q b e1 e2
theorem Rws.rev {H : Hp} {qs : List Addr} {bs : List (List V)} (R : Rws H qs bs) : Rws H qs.reverse bs.reverse := by
  refine ⟨by rw [List.length_reverse, List.length_reverse, R.len], (List.reverse_perm qs).nodup_iff.mpr R.nd, fun i q b e1 e2 => ?_⟩
  have h1 := (List.getElem?_eq_some_iff.mp e1).1
  rw [List.length_reverse] at h1
  rw [List.getElem?_reverse h1] at e1
  rw [List.getElem?_reverse (by rw [← R.len]; exact h1), ← R.len] at e2
  exact R.get _ q b e1 e2
theorem Rws.cons {H : Hp} {qs : List Addr} {bs : List (List V)} {p : Addr} {b : List V} (R : Rws H qs bs) (h : H p = some (.lst b)) (n : p ∉ qs) : Rws H (p :: qs) (b :: bs) := by
  refine ⟨by rw [List.length_cons, List.length_cons, R.len], List.nodup_cons.mpr ⟨n, R.nd⟩, fun i q c e1 e2 => ?_⟩
  cases i with
  | zero =>
    rw [← Option.some.inj e1, ← Option.some.inj e2]
    exact h
  | succ i => exact R.get i q c e1 e2
theorem Rws.app {H : Hp} {qs rs : List Addr} {bs cs : List (List V)} (R : Rws H qs bs) (S : Rws H rs cs) (n : ∀ q ∈ qs, q ∉ rs) : Rws H (qs ++ rs) (bs ++ cs) := by
  refine ⟨by rw [List.length_append, List.length_append, R.len, S.len], List.nodup_append.mpr ⟨R.nd, S.nd, fun x hx y hy e => n x hx (e ▸ hy)⟩, fun i q c e1 e2 => ?_⟩
  rcases Nat.lt_or_ge i qs.length with z | z
  · rw [List.getElem?_append_left z] at e1
    rw [List.getElem?_append_left (R.len ▸ z)] at e2
    exact R.get i q c e1 e2
  · rw [List.getElem?_append_right z] at e1
    rw [List.getElem?_append_right (R.len ▸ z), ← R.len] at e2
    exact S.get _ q c e1 e2
end My
namespace My
open PySem PySem.Spec PyProof.Rows L2
/-! set(xs), xs a list of whole numbers, with all that sorted asks of it -/
section
variable {P : Program} {w : World} {A : Around} {E : Value → Shared → Prop} {s : Shared}
abbrev set0 (w : World) : Obj := { cls := .type "set", dict := none, data := .set #[] 0 (.fresh 0 0 (!w.params.followText "set-order")) }
def Filled (w : World) (s : Shared) (ns : List Int) (s2 : Shared) : Prop :=
  ∃ h' tk c, s2 = { s with heap := h', toks := tk } ∧ SetR w h' s.heap.objs.size (fun j => decide (j ∈ ns)) c ∧ c ≤ ns.length ∧ ∀ b o, s.heap.get? b = some o → h'.get? b = some o
set_option maxHeartbeats 3200000 in
theorem fill_list {l : Addr} {items : Array Value} (ns : List Int) (hh : A.handled = none) (hl : s.heap.IsList l items) (hit : IntsAre items.toList ns) (hb : ns.length + 1 < scanBound) :
    wpAny (model P w) A.in1 (Builtin.«set.__init__» ⟨[.ref s.heap.objs.size, .ref l], []⟩)
      (fun fin s' => match fin with | .done f => wants (fun r s₂ => r = .none ∧ Filled w s ns s₂) E (.ok f) s' | .again c' => c'.quiet = true ∧ codeAny (model P w) A c' (wants (fun r s₂ => r = .none ∧ Filled w s ns s₂) E) s')
      (fun e s' => wants (fun r s₂ => r = .none ∧ Filled w s ns s₂) E (.error e) s') { s with heap := s.heap.push (set0 w) } := by
  have size : items.size = ns.length := by
    have q := IntsAre.length hit
    rwa [Array.length_toList] at q
  obtain ⟨ol, hol, hcl, nl, hdl⟩ := hl
  obtain ⟨ocls, odict, odata, oslots⟩ := ol
  simp only at hcl hdl
  subst hcl; subst hdl
  have at1 : (s.heap.push (set0 w)).get? s.heap.objs.size = some (set0 w) := Heap.get?_push_size _ rfl
  have old : (s.heap.push (set0 w)).get? l = some { cls := .type "list", dict := odict, data := .seq items nl, slots := oslots } := Heap.get?_push_of_some _ hol
  have isl : (s.heap.push (set0 w)).IsList l items := ⟨_, old, rfl, nl, rfl⟩
  have low : l < s.heap.objs.size := Heap.lt_size hol
  have big : (s.heap.push (set0 w)).objs.size = s.heap.objs.size + 1 := Heap.size_push ..
  have sub1 := F.sub_list_set
  have sub2 := F.sub_list_frozenset
  have nodict : (Value.type "list" == Value.type "dict") = false := by decide
  unfold Builtin.«set.__init__» noKeywords Builtin.Frozenset.updateFrom
  generalize hPI : pyIter = PI
  wp_walk
  subst hPI
  refine wpAny_pyIter_list isl ?_
  refine wpAny_bind (wpAny_runValue ?_)
  have calm : A.in1.handled = none := by simp [hh]
  have apart : l ≠ (s.heap.push (set0 w)).objs.size := by rw [big]; exact Nat.ne_of_lt (Nat.lt_succ_of_lt low)
  have off : s.heap.objs.size ∉ [(s.heap.push (set0 w)).objs.size, l] := by
    rw [big]
    simp only [List.mem_cons, List.not_mem_nil, or_false, not_or]
    exact ⟨Nat.ne_of_lt (Nat.lt_succ_self _), Nat.ne_of_gt low⟩
  have val : ∀ (i : Nat) (v : Value), items[i]? = some v → ∃ k t, ns[i]? = some k ∧ v = .int k t := fun i v hv => by
    have hi : i < ns.length := by rw [← size]; exact (Array.getElem?_eq_some_iff.mp hv).1
    obtain ⟨t, e⟩ := PyProof.Rows.IntsAre.int_at hit i v (by rw [Array.getElem?_toList]; exact hv)
    refine ⟨ns[i], t, List.getElem?_eq_getElem hi, ?_⟩
    rw [e, List.getD_eq_getElem?_getD, List.getElem?_eq_getElem hi] <;> rfl
  refine set_update_ints ((Walks.list (by simp [hh]) _ l apart items).toS) s.heap.objs.size off ns size hb val (items.size - 0) 0 _ (by omega) (Nat.zero_le _)
    ⟨⟨_, Heap.get?_push_size _ rfl, rfl, rfl⟩, isl.push _⟩ ?gS ?gR
  case gS =>
    exact ⟨0, Nat.le_refl 0, setR_new_at (Heap.get?_push_of_some _ at1)⟩
  case gR =>
    intro s' c' hm hc' hS'
    obtain ⟨h', g2, d', tk', os'⟩ := s'
    have eg : g2 = s.gens := hm.gens
    have ed : d' = s.drawn := hm.drawn
    have eo : os' = s.os := hm.os
    subst eg; subst ed; subst eo
    show wpAny _ _ _ _ _ _
    refine wpAny_pure ?_
    show wpAny _ _ (ret Value.none) _ _ _
    rw [size] at hc'
    refine wpAny_pure ⟨rfl, h', tk', c', rfl, hS', hc', fun b o e => ?_⟩
    have b0 : b < s.heap.objs.size := Heap.lt_size e
    refine hm.heap b o ?_ (Heap.get?_push_of_some _ (Heap.get?_push_of_some _ e))
    simp only [List.mem_cons, List.not_mem_nil, or_false, not_or]
    exact ⟨Nat.ne_of_lt b0, by rw [big]; exact Nat.ne_of_lt (Nat.lt_succ_of_lt b0)⟩
set_option maxHeartbeats 3200000 in
theorem call_setL {l : Addr} {items : Array Value} (ns : List Int) {Q : Value → Shared → Prop} (hh : A.handled = none) (hl : s.heap.IsList l items) (hit : IntsAre items.toList ns) (hb : ns.length + 1 < scanBound)
    (h : ∀ (s2 : Shared), Filled w s ns s2 → Q (.ref s.heap.objs.size) s2) :
    wpAny (model P w) A (call (.type "set") [.ref l]) Q E s := by
  obtain ⟨c, tl, hmro⟩ := F.called_set.mro
  have hmade := F.called_set.made
  have hsub := F.called_set.sub
  refine wpAny_call (codeAny_of_tree ?_)
  show wpAny _ _ (callAny (.type "set") _) _ _ _
  refine wpAny_pure ⟨Code.quiet_builtin _ (by decide +kernel), codeAny_builtin F.entry_type_call ?_⟩
  rw [Around.under_plain (weight_type_call_type "set" [.ref l] []) rfl]
  have h1 := F.called_set.notType
  have h2 := F.called_set.canCreate
  have hct := F.typeCall_set_1 (.ref l)
  repeat (any_goals (first | assumption | wp_step))
  refine codeAny_mono (code_set_led1 (.ref l) (E := E) (Q₁ := fun obj s₁ => obj = .ref s.heap.objs.size ∧ s₁ = { s with heap := s.heap.push (set0 w) }) ⟨rfl, rfl⟩) fun r s₁ hr => ?_
  cases r with
  | error e => exact hr
  | ok fl =>
    cases fl with
    | ret obj =>
      obtain ⟨rfl, rfl⟩ := hr
      have hT : Shared.TypeIs { s with heap := s.heap.push (set0 w) } (.ref s.heap.objs.size) "set" := ⟨_, Heap.get?_push_size _ rfl, rfl⟩
      have hli := F.called_set.init.lookup
      have hbi := F.called_set.init.bind (.ref s.heap.objs.size)
      repeat (any_goals (first | assumption | wp_step))
      refine codeAny_mono (codeAny_call_builtin (R := wants (fun r s₂ => r = .none ∧ Filled w s ns s₂) E) F.called_set.init.plain F.entry_set_init (check_set_init_1 hT ?_)) fun r₂ s₂ hr₂ => ?_
      · exact fill_list ns (by simp [hh]) hl hit hb
      · cases r₂ with
        | error e => exact hr₂
        | ok fl₂ =>
          cases fl₂ with
          | ret r =>
            obtain ⟨rfl, hF⟩ := hr₂
            repeat (any_goals (first | assumption | wp_step))
            exact h _ hF
          | _ => exact hr₂.elim
    | _ => exact hr.elim
end
def rSetL2 (K : PySem.W.Frag) (w : World) : List V → Hp → VK → Prop := fun vs H Q => ∃ (l : Addr) (ns : List Int), vs = [.ref l] ∧ SqL K H l (ns.map V.int) ∧ ns.length < 64 ∧
  ∀ p c, H p = none → c < 64 → Q (.ref p) (upd H p (SetO w p (fun j => decide (j ∈ ns)) c))
theorem cr_setL {X : Cx} (hc : X.calm = true) : CallR X (.type "set") (rSetL2 X.K X.w) := by
  intro pins s σ H vs us Q I r h
  obtain ⟨l, ns, rfl, hq, h64, q⟩ := h
  obtain ⟨its, rv, pl, hz⟩ := I.list hq
  rw [Vals.ref1 r]
  refine call_setL ns (I.ok.hd hc) pl.isList (by simpa using rv.ints) (by unfold scanBound; omega) fun s2 hF => ?_
  obtain ⟨h', tk, c, rfl, hS, hcl, kp⟩ := hF
  exact ⟨.ref s.heap.objs.size, _, I.laid (t' := tk) kp (Nat.le_refl _) (setO_new hS), rfl, q _ c (I.hok.fresh (Nat.le_refl _)) (by omega)⟩
end My
namespace My
open PySem PySem.Spec PyProof.Rows L2
def topS (i : Nat) : Stmt := PySem.Challenge.pw_leastheads_k06_whole_blocks_of_results.main.body.getD i (.Pass ⟨0, 0, 0, 0⟩)
abbrev sInt : Stmt := topS 5
abbrev sNums : Stmt := topS 6
abbrev sFam : Stmt := topS 7
abbrev sReq : Stmt := topS 8
abbrev sReqF : Stmt := topS 9
abbrev sSplit : Stmt := topS 10
abbrev sPlaced : Stmt := topS 11
abbrev sMergeQ : Stmt := topS 12
abbrev sBlocks : Stmt := topS 13
abbrev sMerged : Stmt := topS 14
abbrev sAssign : Stmt := topS 15
abbrev sDrum : Stmt := topS 17
abbrev sSpin : Stmt := topS 18
abbrev sNumbers : Stmt := topS 19
abbrev sLFam : Stmt := topS 20
abbrev sRight : Stmt := topS 21
abbrev sLaw : Stmt := topS 22
/-- the built-in names that stay built in -/
structure Txt (mg : Str → Option Value) : Prop where
  isi : mg "isinstance" = none
  int : mg "int" = none
  bool : mg "bool" = none
  list : mg "list" = none
  all : mg "all" = none
  len : mg "len" = none
  set : mg "set" = none
  max : mg "max" = none
  min : mg "min" = none
  range : mg "range" = none
  enum : mg "enumerate" = none
  repr : mg "repr" = none
  sorted : mg "sorted" = none
  tuple : mg "tuple" = none
  zip : mg "zip" = none
  reversed : mg "reversed" = none
  sum : mg "sum" = none
  str : mg "str" = none
  any : mg "any" = none
end My
namespace My
open PySem PySem.Spec PyProof.Rows L2
theorem scInt : FnScope ["value"] ["value"] (defScope sInt) := ⟨rfl, rfl, rfl, by decide +kernel, rfl, by decide +kernel, by decide +kernel⟩
theorem scNums : FnScope ["value", "number"] ["value"] (defScope sNums) := ⟨rfl, rfl, rfl, by decide +kernel, rfl, by decide +kernel, by decide +kernel⟩

section
variable {P : Program} {w : World} {K : PySem.W.Frag} {mg : Str → Option Value} {base : Heap}

theorem kit_ii : PySem.W.kitOne K (.type "int") (.type "int") = some true := kit_ty (by decide +kernel)
theorem kit_ib : PySem.W.kitOne K (.type "int") (.type "bool") = some false := kit_ty (by decide +kernel)
theorem kit_ll : PySem.W.kitOne K (.type "list") (.type "list") = some true := kit_ty (by decide +kernel)

/-- an int is an integer -/
def spInt : Sp := fun vs H Q _ => ∃ i : Int, vs = [.int i] ∧ Q (.bl true) H
theorem ok_int {f : Addr} {fd : FuncData} {k : Nat} (F : Fun K "is_integer" "is_integer" sInt f fd) (T : Txt mg) : FnOk P w K mg base CX0 (k + 1) f fd ["value"] spInt := by
  refine F.ok scInt (fun vs H Q E h => ?_) (fun cdv A outer s H vs Q E hr h => ?_)
  · obtain ⟨i, rfl, _⟩ := h
    rfl
  · obtain ⟨i, rfl, q⟩ := h
    refine ⟨_, pss_one (ps_ret (pe_and
      (pe_callB call_isi (by rfl) T.isi (by decide +kernel) (pa_cons (pv 0) (pa_cons (pe_bltn (by rfl) T.int (by decide +kernel) (v := .ty "int") rfl) pa_nil)))
      (pe_one (pe_not (pe_callB call_isi (by rfl) T.isi (by decide +kernel) (pa_cons (pv 0) (pa_cons (pe_bltn (by rfl) T.bool (by decide +kernel) (v := .ty "bool") rfl) pa_nil))))))), ?_⟩
    refine ⟨.int i, rfl, .int i, .ty "int", .type "int", .type "int", true, rfl, .ty _, .base (.int i), kit_ii, true, rfl, iteT ?_⟩
    exact ⟨.int i, rfl, .int i, .ty "bool", .type "int", .type "bool", false, rfl, .ty _, .base (.int i), kit_ib, false, rfl, q⟩

/-- a list of different ints is a list of numbers -/
def spNums : Sp := fun vs H Q _ => ∃ (a : Addr) (ns : List Int), vs = [.ref a] ∧ H a = some (.lst (ns.map V.int)) ∧ ns.Nodup ∧ ns.length ≤ 4000 ∧ ∀ H', Same H H' → Q (.bl true) H'
theorem ok_nums {f fI : Addr} {fd fdI : FuncData} {k : Nat} (F : Fun K "is_numbers" "is_numbers" sNums f fd) (T : Txt mg)
    (FI : Fun K "is_integer" "is_integer" sInt fI fdI) (gI : mg "is_integer" = some (.ref fI)) (bI : Binds K fdI ["value"] []) : FnOk P w K mg base CX0 (k + 2) f fd ["value"] spNums := by
  have GI : FnOk P w K mg base CX0 (k + 1) fI fdI ["value"] spInt := ok_int FI T
  refine F.ok scNums (fun vs H Q E h => ?_) (fun cdv A outer s H vs Q E hr h => ?_)
  · obtain ⟨a, ns, rfl, _⟩ := h
    rfl
  · obtain ⟨a, ns, rfl, hS, nd, hl, q⟩ := h
    refine ⟨_, pss_cons (ps_if (pt_not (pt_val (pe_callB call_isi (by rfl) T.isi (by decide +kernel) (pa_cons (pv 0) (pa_cons (pe_bltn (by rfl) T.list (by decide +kernel) (v := .ty "list") rfl) pa_nil))))) (pss_one (ps_ret pe_bl)) pss_nil)
      (pss_cons (ps_if (pt_not (pt_val (pe_callB (cr_all rfl) (by rfl) T.all (by decide +kernel) (pa_cons
          (pe_lc (own := [("number", 1)]) (g := gName 1) (by rfl) scNums.nd (pi_list (pv 0)) (blkOk_by (own := [("number", 1)]) (N := ["value", "number"]) (sc := defScope sNums) (by decide +kernel))
            (fun _ _ _ _ _ => pg_name (i := 1) scNums.nd rfl (Or.inl rfl)) (fun _ _ _ _ _ => pts_nil)
            (fun _ _ _ _ _ => pe_call GI hr (by rfl) gI FI.kp bI .nil pass0 (pa_cons (pv 1) pa_nil))) pa_nil)))) (pss_one (ps_ret pe_bl)) pss_nil)
      (pss_one (ps_ret (pe_cmpR op_eq (RZ.pe_lenSetI (by rfl) T.len (by rfl) T.set (pv 0)) (pe_callB call_len_seq (by rfl) T.len PySem.boot_len (pa_cons (pv 0) pa_nil)) (nomark _))))), ?_⟩
    refine ⟨.ref a, rfl, .ref a, .ty "list", .type "list", .type "list", true, rfl, .ty _, .base (.lst hS), kit_ll, true, rfl, iteF ?_⟩
    refine ⟨.ref a, rfl, a, rfl, ⟨_, SqL.of hS⟩, fun D nD => ?_⟩
    have na : a ≠ D := ne_of_none hS nD
    refine lc_list (K := K) (a := a) (xs := ns.map V.int) (fun i H' => Same H H' ∧ H' D = some (.lst ((List.replicate i true).map V.bl))) ?_ ?_ ?_ ?_
    · refine ⟨fun b o e => ?_, upd_same⟩
      rw [upd_ne (ne_of_none e nD)]; exact e
    · intro i H' _ hP
      exact SqL.of (hP.1 _ _ hS)
    · intro i x H' hx hP
      refine ⟨rfl, ?_⟩
      rw [List.getElem?_map] at hx
      obtain ⟨n, _, rfl⟩ := Option.map_eq_some_iff.mp hx
      have hi : i < ns.length := by
        rcases Nat.lt_or_ge i ns.length with z | z
        · exact z
        · rw [List.getElem?_eq_none z] at hx; cases hx
      refine iteT (B := Same H H' ∧ H' D = some (HO.lst (List.map V.bl (List.replicate (i + 1) true)))) ?_
      refine ⟨.int n, rfl, n, rfl, _, hP.2, ?_, ?_, ?_⟩
      · rw [List.length_map, List.length_replicate]
        unfold sizeLine; omega
      · intro b o e
        rw [upd_ne (ne_of_none e nD)]
        exact hP.1 b o e
      · rw [upd_same, List.replicate_succ', List.map_append]
        rfl
    · intro H' hP
      refine ⟨D, _, rfl, SqL.of hP.2, ?_⟩
      have ea : (List.replicate (ns.map V.int).length true).all id = true := by simp
      rw [ea]
      refine ⟨true, rfl, iteF ?_⟩
      have hS' : H' a = some (.lst (ns.map V.int)) := hP.1 _ _ hS
      refine ⟨.ref a, rfl, a, ns, rfl, SqL.of hS', nd, hl, .ref a, rfl, a, ns.map V.int, rfl, Or.inl (SqL.of hS'), rfl, ?_⟩
      have e2 : decide (V.int (ns.length : Nat) = V.int ((ns.map V.int).length : Nat)) = true := by
        rw [List.length_map]
        exact decide_eq_true rfl
      rw [e2]
      exact q H' hP.1

end
end My
namespace My
open PySem PySem.Spec PyProof.Rows L2
theorem scSplit : FnScope ["numbers", "blocks", "number"] ["numbers"] (defScope sSplit) := ⟨rfl, rfl, rfl, by decide +kernel, rfl, by decide +kernel, by decide +kernel⟩

/-- the rows of ints as values -/
abbrev vv (bs : List (List Int)) : List (List V) := bs.map fun b => b.map V.int
theorem vv_len (bs : List (List Int)) : (vv bs).length = bs.length := List.length_map ..
/-- new rows at new addresses, the list of them at p -/
structure NewRows (H H' : Hp) (p : Addr) (qs : List Addr) (bs : List (List V)) : Prop where
  same : Same H H'
  fresh : ∀ q ∈ qs, H q = none
  freshp : H p = none
  top : H' p = some (.lst (qs.map V.ref))
  off : p ∉ qs
  rows : Rws H' qs bs
theorem atI_last1 {qs : List Addr} {q : Addr} : atI ((qs ++ [q]).map V.ref) (-1) = some (.ref q) := by
  rw [List.map_append]
  exact atI_last _ _

section
variable {P : Program} {w : World} {K : PySem.W.Frag} {mg : Str → Option Value} {base : Heap}
def spSplit : Sp := fun vs H Q _ => ∃ (a : Addr) (ns : List Int), vs = [.ref a] ∧ H a = some (.lst (ns.map V.int)) ∧ ns.length ≤ 4000 ∧
  ∀ H' p qs, NewRows H H' p qs (vv (cut ns)) → Q (.ref p) H'
theorem ok_split {f : Addr} {fd : FuncData} {k : Nat} (F : Fun K "split_blocks" "split_blocks" sSplit f fd) (T : Txt mg) : FnOk P w K mg base CX0 (k + 1) f fd ["numbers"] spSplit := by
  refine F.ok scSplit (fun vs H Q E h => ?_) (fun cdv A outer s H vs Q E hr h => ?_)
  · obtain ⟨a, ns, rfl, _⟩ := h
    rfl
  · obtain ⟨a, ns, rfl, hS, hl, q⟩ := h
    refine ⟨_, pss_cons (ps_set (i := 1) scSplit.nd rfl (.inl rfl) (pe_lst pa_nil))
      (pss_cons (ps_for PassesOwn.never rfl (pi_list (pv 0)) (pg_name (i := 2) scSplit.nd rfl (.inl rfl))
        (pss_one (ps_if (PW.pt (pw_or (pt_cmpR op_eq (pe_callB call_len_seq (by rfl) T.len PySem.boot_len (pa_cons (pv 1) pa_nil)) pe_int (nomark _))
            (pw_or1 (pt_cmpR op_gt (pv 2) (pe_ix ix_list (pe_ix ix_list (pv 1) (pe_un un_neg pe_int) (fun _ _ => rfl)) pe_int (fun _ _ => rfl)) (nomark _)))))
          (pss_one (ps_expr (pe_bm PySem.F.plainAttrs_list PySem.F.slot_list_append PySem.F.type_list_append mt_append (pv 1) (pa_cons (pe_lst (pa_cons (pv 2) pa_nil)) pa_nil))))
          (pss_one (ps_expr (pe_bm PySem.F.plainAttrs_list PySem.F.slot_list_append PySem.F.type_list_append mt_append (pe_ix ix_list (pv 1) (pe_un un_neg pe_int) (fun _ _ => rfl)) (pa_cons (pv 2) pa_nil)))))))
      (pss_one (ps_ret (pv 1)))), ?_⟩
    refine ⟨Nat.zero_le _, fun p np => ?_⟩
    have nap : a ≠ p := ne_of_none hS np
    refine ⟨.ref a, rfl, a, rfl, ⟨_, SqL.of (by rw [upd_ne nap]; exact hS)⟩, for_list (K := K) (a := a) (xs := ns.map V.int)
      (fun i σ H' => ∃ y qs, σ = [some (.ref a), some (.ref p), y] ∧ NewRows H H' p qs (vv (cut (ns.take i)))) ⟨none, [], rfl, sameN np, by simp, np, upd_same, by simp, Rws.nil⟩ ?_ ?_ ?_⟩
    · rintro i σ H' _ ⟨y, qs, _, N⟩
      exact SqL.of (N.same _ _ hS)
    · rintro i x σ H' hx ⟨y, qs, rfl, N⟩
      rw [List.getElem?_map] at hx
      obtain ⟨n, hn, rfl⟩ := Option.map_eq_some_iff.mp hx
      have hi : i < ns.length := (List.getElem?_eq_some_iff.mp hn).1
      have G := good_cut (ns.take i)
      have hlen : qs.length ≤ 4000 := by
        have h1 := N.rows.len
        rw [vv_len] at h1
        have h2 := G.len
        rw [List.length_take] at h2
        omega
      refine ⟨.ref p, rfl, p, _, rfl, .inl (SqL.of N.top), rfl, _, rfl, ?_⟩
      rcases G.last with e | ⟨ini, m, r, e, hm, hmax⟩
      · -- no block yet
        have hq : qs = [] := List.eq_nil_of_length_eq_zero (by rw [N.rows.len, vv_len, e]; rfl)
        subst hq
        refine iteT (iteT ?_)
        refine ⟨.ref p, rfl, .inl ⟨rfl, _, SqL.of N.top⟩, (.int n), rfl, (show 1 ≤ sizeLine by decide), fun q nq => ?_⟩
        have npq : p ≠ q := ne_of_none N.top nq
        refine ⟨p, _, _, rfl, rfl, by rw [upd_ne npq]; exact N.top, by decide, ?_⟩
        refine ⟨_, [q], rfl, same0 (same0 N.same (N.same.free nq)) N.freshp, ?_, N.freshp, upd_same, ?_, ?_⟩
        · intro z hz
          have e2 : z = q := by simpa using hz
          rw [e2]; exact N.same.free nq
        · intro z
          exact npq (by simpa using z)
        · rw [cut_take hn, e, put_nil]
          have R := (N.rows.push (b := [V.int n]) nq).off (o := .lst ([] ++ [V.ref q])) (p := p) (by intro z; exact npq (by simpa using z))
          rw [e] at R
          exact R
      · -- behind the last block or a new one
        have hv : vv (cut (ns.take i)) = vv ini ++ [(m :: r).map V.int] := by rw [e]; exact List.map_append ..
        have hql : qs.length = (vv ini).length + 1 := by rw [N.rows.len, hv, List.length_append]; rfl
        obtain ⟨qi, ql, hqe⟩ : ∃ qi ql, qs = qi ++ [ql] := by
          rcases List.eq_nil_or_concat qs with z | ⟨a1, b1, z⟩
          · rw [z] at hql; cases hql
          · exact ⟨a1, b1, by rw [z, List.concat_eq_append]⟩
        subst hqe
        have hqi : qi.length = (vv ini).length := by
          rw [List.length_append] at hql
          have : [ql].length = 1 := rfl
          omega
        have at1 : (qi ++ [ql])[qi.length]? = some ql := by simp
        have at2 : (vv (cut (ns.take i)))[qi.length]? = some ((m :: r).map V.int) := by rw [hv, hqi]; simp
        have hlast : H' ql = some (.lst ((m :: r).map V.int)) := N.rows.get _ _ _ at1 at2
        have npl : p ≠ ql := fun z => N.off (by rw [z]; simp)
        have e0 : decide (V.int ((qi ++ [ql]).map V.ref).length = V.int 0) = false := by
          apply decide_eq_false
          intro z
          have z2 := V.int.inj z
          rw [List.length_map, List.length_append] at z2
          have : [ql].length = 1 := rfl
          omega
        rw [e0]
        refine iteF ?_
        refine ⟨.int n, rfl, .ref p, rfl, 1, rfl, p, _, _, .ref ql, rfl, rfl, SqL.of N.top, atI_last1, ql, _, _, .int m, rfl, rfl, SqL.of hlast, atI_nat (j := 0) rfl, n, m, rfl, rfl, _, rfl, ?_⟩
        by_cases hlt : m < n
        · have e1 : decide (n > m) = true := decide_eq_true hlt
          rw [e1]
          refine iteT ?_
          refine ⟨.ref p, rfl, .inl ⟨rfl, _, SqL.of N.top⟩, (.int n), rfl, (show 1 ≤ sizeLine by decide), fun q nq => ?_⟩
          have npq : p ≠ q := ne_of_none N.top nq
          have nqs : q ∉ qi ++ [ql] := fun z => N.rows.there z nq
          refine ⟨p, _, _, rfl, rfl, by rw [upd_ne npq]; exact N.top, ?_, ?_⟩
          · rw [List.length_map]; unfold sizeLine; omega
          refine ⟨_, qi ++ [ql] ++ [q], rfl, same0 (same0 N.same (N.same.free nq)) N.freshp, ?_, N.freshp, ?_, ?_, ?_⟩
          · intro z hz
            rcases List.mem_append.mp hz with y | y
            · exact N.fresh z y
            · have e2 : z = q := by simpa using y
              rw [e2]; exact N.same.free nq
          · rw [upd_same, List.map_append (l₁ := qi ++ [ql])]
            rfl
          · intro z
            rcases List.mem_append.mp z with y | y
            · exact N.off y
            · exact npq (by simpa using y)
          · have hput : cut (ns.take (i + 1)) = (ini ++ [m :: r]) ++ [[n]] := by
              rw [cut_take hn, e, put_snoc]
              exact if_pos hlt
            rw [hput]
            have R := (N.rows.push (b := [V.int n]) nq).off (o := .lst ((qi ++ [ql]).map V.ref ++ [V.ref q])) (p := p) (by
              intro z
              rcases List.mem_append.mp z with y | y
              · exact N.off y
              · exact npq (by simpa using y))
            rw [e] at R
            have ev : vv (ini ++ [m :: r] ++ [[n]]) = vv (ini ++ [m :: r]) ++ [[V.int n]] := List.map_append ..
            rw [ev]
            exact R
        · have e1 : decide (n > m) = false := decide_eq_false hlt
          rw [e1]
          refine iteF ?_
          refine ⟨.ref p, rfl, 1, rfl, p, _, _, .ref ql, rfl, rfl, SqL.of N.top, atI_last1, .inl ⟨rfl, _, SqL.of hlast⟩, .int n, rfl, ql, _, _, rfl, rfl, hlast, ?_, ?_⟩
          · rw [List.length_map]
            have h1 := G.rowlen (b := m :: r) (by rw [e]; simp)
            rw [List.length_take] at h1
            unfold sizeLine; omega
          refine ⟨_, qi ++ [ql], rfl, same0 N.same (N.fresh ql (by simp)), N.fresh, N.freshp, ?_, N.off, ?_⟩
          · rw [upd_ne npl]; exact N.top
          · have hput : cut (ns.take (i + 1)) = ini ++ [(m :: r) ++ [n]] := by
              rw [cut_take hn, e, put_snoc]
              exact if_neg hlt
            rw [hput]
            have R := N.rows.put (b := (m :: r).map V.int ++ [V.int n]) at1
            rw [hv, hqi, List.set_append_right _ _ (Nat.le_refl _), Nat.sub_self] at R
            have ev : vv (ini ++ [(m :: r) ++ [n]]) = vv ini ++ [(m :: r).map V.int ++ [V.int n]] := by
              show (ini ++ [(m :: r) ++ [n]]).map _ = _
              rw [List.map_append, List.map_singleton, List.map_append]
              rfl
            rw [ev]
            exact R
    · rintro σ H' ⟨y, qs, rfl, N⟩
      rw [List.length_map, List.take_length] at N
      exact ⟨.ref p, rfl, q H' p qs N⟩

def spBlocks : Sp := fun vs H Q _ => ∃ (a : Addr) (ns : List Int), vs = [.ref a] ∧ H a = some (.lst (ns.map V.int)) ∧ ns.Nodup ∧ ns.length ≤ 4000 ∧
  ∀ H' p qs, NewRows H H' p qs (vv (cut ns)) → Q (.ref p) H'
end
end My
namespace My
open PySem PySem.Spec PyProof.Rows L2
theorem scDrum : FnScope ["script", "k", "cell"] ["script", "k"] (defScope sDrum) := ⟨rfl, rfl, rfl, by decide +kernel, rfl, by decide +kernel, by decide +kernel⟩
theorem scSpin : FnScope ["drum", "size", "found", "mixed"] ["drum", "size"] (defScope sSpin) := ⟨rfl, rfl, rfl, by decide +kernel, rfl, by decide +kernel, by decide +kernel⟩

/-- a drum's three numbers, the third at most n -/
structure Drm (a b c : Int) (n : Nat) : Prop where
  a0 : 0 ≤ a
  b0 : 0 ≤ b
  b1 : b < 2 ^ 200
  c0 : 0 ≤ c
  c1 : c ≤ n
abbrev drl (a b c : Int) : HO := .lst [.int a, .int b, .int c]
theorem fmod_lo {x m : Int} (h : 0 < m) : 0 ≤ x.fmod m := Int.fmod_nonneg_of_pos x h
theorem fmod_hi {x m : Int} (h : 0 < m) : x.fmod m < m := Int.fmod_lt_of_pos x h
theorem abs_lt {x : Int} {b : Nat} (h0 : 0 ≤ x) (h : x < (2 ^ b : Nat)) : x.natAbs < 2 ^ b := by omega

theorem p44 : (0 : Int) < 10 ^ (44 : Int).toNat + 31 := by decide
theorem p42 : (0 : Int) < 10 ^ (42 : Int).toNat + 63 := by decide
theorem n44 : (10 : Int) ^ (44 : Int).toNat + 31 ≠ 0 := by decide
theorem n42 : (10 : Int) ^ (42 : Int).toNat + 63 ≠ 0 := by decide
section
variable {P : Program} {w : World} {K : PySem.W.Frag} {mg : Str → Option Value} {base : Heap}
def spDrum (K : PySem.W.Frag) : Sp := fun vs H Q _ => ∃ (a : Addr) (ns : List Int) (j : Nat), vs = [.ref a, .int j] ∧ SqL K H a (ns.map V.int) ∧ j ≤ 100 ∧
  ∀ D x y, H D = none → Drm x y 0 0 → Q (.ref D) (upd H D (drl x y 0))
theorem ok_drum {f : Addr} {fd : FuncData} {k : Nat} (F : Fun K "_law_drum" "_law_drum" sDrum f fd) (T : Txt mg) : FnOk P w K mg base CX0 (k + 1) f fd ["script", "k"] (spDrum K) := by
  refine F.ok scDrum (fun vs H Q E h => ?_) (fun cdv A outer s H vs Q E hr h => ?_)
  · obtain ⟨a, ns, j, rfl, _⟩ := h
    rfl
  · obtain ⟨a, ns, j, rfl, hS, hj, q⟩ := h
    refine ⟨_, pss_cons (ps_set (i := 2) scDrum.nd rfl (.inl rfl) pe_int)
      (pss_cons (ps_if (pt_cmpR op_lt (pv 1) (pe_callB call_len_seq (by rfl) T.len PySem.boot_len (pa_cons (pv 0) pa_nil)) (nomark _))
        (pss_one (ps_set (i := 2) scDrum.nd rfl (.inl rfl) (pe_ix ix_list (pv 0) (pv 1) (fun _ _ => rfl)))) pss_nil)
      (pss_one (ps_ret (pe_lst (pa_cons (pe_callB (call_max2 rfl) (by rfl) T.max (by decide +kernel) (pa_cons pe_int (pa_cons (pe_op op_sub (pv 2) (pe_op op_pow pe_int pe_int)) pa_nil)))
        (pa_cons (pe_op op_add (pe_op op_add (pe_op op_mulW (pe_op op_modN (pv 2) (pe_op op_add (pe_op op_pow pe_int pe_int) pe_int)) pe_int) (pe_op op_mul pe_int (pv 1))) pe_int)
        (pa_cons pe_int pa_nil))))))), ?_⟩
    have fin : ∀ cell : Int, ∀ D : Addr, H D = none → Q (.ref D) (upd H D (drl (if cell - 10 ^ (18 : Int).toNat > 0 then cell - 10 ^ (18 : Int).toNat else 0)
        ((cell.fmod (10 ^ (44 : Int).toNat + 31)) * 8192 + 29 * (j : Int) + 7) 0)) := by
      intro cell D nD
      have e44 : (10 : Int) ^ (44 : Int).toNat = 10 ^ 44 := rfl
      have l1 := fmod_lo (x := cell) (m := 10 ^ (44 : Int).toNat + 31) (by decide)
      have l2 := fmod_hi (x := cell) (m := 10 ^ (44 : Int).toNat + 31) (by decide)
      rw [e44] at l1 l2 ⊢
      refine q D _ _ nD ⟨?_, ?_, ?_, by decide, by decide⟩
      · split <;> omega
      · omega
      · omega
    refine ⟨.int j, rfl, .ref a, rfl, a, _, rfl, .inl hS, _, _, rfl, rfl, _, rfl, ite2 (fun e => ?_) (fun e => ?_)⟩
    · have hlt : j < ns.length := by
        have z := of_decide_eq_true e
        rw [List.length_map] at z
        omega
      refine ⟨.ref a, rfl, .int j, rfl, a, _, _, .int ns[j], rfl, rfl, hS, atI_nat (j := j) (by rw [List.getElem?_map, List.getElem?_eq_getElem hlt]; rfl), ?_⟩
      refine ⟨_, rfl, 10, 18, rfl, rfl, ⟨by decide, by decide, by decide⟩, _, _, rfl, rfl, _, _, rfl, ?_⟩
      refine ⟨_, rfl, 10, 44, rfl, rfl, ⟨by decide, by decide, by decide⟩, _, _, rfl, rfl, _, _, rfl, rfl, n44, ?_⟩
      refine ⟨_, _, rfl, rfl, wide_mul (a := 150) (b := 14) (abs_lt (fmod_lo p44) (Int.lt_trans (fmod_hi p44) (by decide))) (by decide) (by decide) (by decide) (by decide), ?_⟩
      refine ⟨.int j, rfl, _, _, rfl, rfl, .inl ⟨by decide, by decide⟩, _, _, rfl, rfl, _, _, rfl, rfl, (show 3 ≤ sizeLine by decide), fun D nD => ?_⟩
      exact fin _ D nD
    · refine ⟨_, rfl, 10, 18, rfl, rfl, ⟨by decide, by decide, by decide⟩, _, _, rfl, rfl, _, _, rfl, ?_⟩
      refine ⟨_, rfl, 10, 44, rfl, rfl, ⟨by decide, by decide, by decide⟩, _, _, rfl, rfl, _, _, rfl, rfl, n44, ?_⟩
      refine ⟨_, _, rfl, rfl, wide_mul (a := 150) (b := 14) (abs_lt (fmod_lo p44) (Int.lt_trans (fmod_hi p44) (by decide))) (by decide) (by decide) (by decide) (by decide), ?_⟩
      refine ⟨.int j, rfl, _, _, rfl, rfl, .inl ⟨by decide, by decide⟩, _, _, rfl, rfl, _, _, rfl, rfl, (show 3 ≤ sizeLine by decide), fun D nD => ?_⟩
      exact fin _ D nD

def spSpin : Sp := fun vs H Q _ => ∃ (D : Addr) (z a b c : Int) (n : Nat), vs = [.ref D, .int z] ∧ H D = some (drl a b c) ∧ Drm a b c n ∧ n ≤ 1000000 ∧ 1 ≤ z ∧ z < 2 ^ 100 ∧
  ∀ v a' b' c', 0 ≤ v → v < z → Drm a' b' c' (n + 1) → Q (.int v) (upd H D (drl a' b' c'))
theorem ok_spin {f : Addr} {fd : FuncData} {k : Nat} (F : Fun K "_law_spin" "_law_spin" sSpin f fd) : FnOk P w K mg base CX0 (k + 1) f fd ["drum", "size"] spSpin := by
  refine F.ok scSpin (fun vs H Q E h => ?_) (fun cdv A outer s H vs Q E hr h => ?_)
  · obtain ⟨D, z, a, b, c, n, rfl, _⟩ := h
    rfl
  · obtain ⟨D, z, a, b, c, n, rfl, hD, hd, hn, hz, hz2, q⟩ := h
    refine ⟨_, pss_cons (ps_if (pt_cmpR op_gt (pe_ix ix_list (pv 0) pe_int (fun _ _ => rfl)) pe_int (nomark _))
        (pss_cons (ps_set (i := 2) scSpin.nd rfl (.inl rfl) (pe_op op_modN (pe_ix ix_list (pv 0) pe_int (fun _ _ => rfl)) (pv 1)))
        (pss_cons (ps_asg (pe_op op_fdivW (pe_ix ix_list (pv 0) pe_int (fun _ _ => rfl)) (pv 1)) (pg_sub (pv 0) pe_int set_list))
        (pss_one (ps_ret (pv 2))))) pss_nil)
      (pss_cons (ps_asg (pe_op op_add (pe_ix ix_list (pv 0) pe_int (fun _ _ => rfl)) pe_int) (pg_sub (pv 0) pe_int set_list))
      (pss_cons (ps_set (i := 3) scSpin.nd rfl (.inl rfl) (pe_op op_modN (pe_op op_pw (pe_op op_add (pe_ix ix_list (pv 0) pe_int (fun _ _ => rfl)) (pe_op op_mul pe_int (pe_ix ix_list (pv 0) pe_int (fun _ _ => rfl)))) pe_int) (pe_op op_add (pe_op op_pow pe_int pe_int) pe_int)))
      (pss_cons (ps_set (i := 3) scSpin.nd rfl (.inl rfl) (pe_op op_modN (pe_op op_add (pe_op op_mulW (pv 3) (pv 3)) (pe_op op_mul pe_int (pe_ix ix_list (pv 0) pe_int (fun _ _ => rfl)))) (pe_op op_add (pe_op op_pow pe_int pe_int) pe_int)))
      (pss_one (ps_ret (pe_op op_modN (pe_op op_fdivN (pv 3) pe_int) (pv 1))))))), ?_⟩
    have hL : SqL K H D [.int a, .int b, .int c] := SqL.of hD
    refine ⟨.ref D, rfl, D, _, 0, .int a, rfl, rfl, hL, atI_nat (j := 0) rfl, _, _, rfl, rfl, _, rfl, ite2 (fun e => ?_) (fun e => ?_)⟩
    · refine ⟨.ref D, rfl, D, _, 0, .int a, rfl, rfl, hL, atI_nat (j := 0) rfl, .int z, rfl, _, _, rfl, rfl, by omega, ?_⟩
      refine ⟨.ref D, rfl, D, _, 0, .int a, rfl, rfl, hL, atI_nat (j := 0) rfl, .int z, rfl, _, _, rfl, rfl, wide_div (b := 100) (by omega) (abs_lt (by omega) hz2) (by decide) (by decide), ?_⟩
      refine ⟨.ref D, rfl, D, _, 0, 0, rfl, rfl, hD, rfl, ?_⟩
      refine ⟨_, rfl, ?_⟩
      refine q _ _ _ _ (fmod_lo (by omega)) (fmod_hi (by omega)) ⟨Int.ediv_nonneg hd.a0 (by omega), hd.b0, hd.b1, hd.c0, ?_⟩
      have := hd.c1
      omega
    · refine ⟨.ref D, rfl, D, _, 2, .int c, rfl, rfl, hL, atI_nat (j := 2) rfl, _, _, rfl, rfl, .ref D, rfl, D, _, 2, 2, rfl, rfl, hD, rfl, ?_⟩
      have hL2 : SqL K (upd H D (drl a b (c + 1))) D [.int a, .int b, .int (c + 1)] := SqL.of upd_same
      have hb := hd.b0
      have hb1 := hd.b1
      have hc := hd.c0
      have hc1 := hd.c1
      refine ⟨.ref D, rfl, D, _, 1, .int b, rfl, rfl, hL2, atI_nat (j := 1) rfl, .ref D, rfl, D, _, 2, .int (c + 1), rfl, rfl, hL2, atI_nat (j := 2) rfl, _, _, rfl, rfl, .inl ⟨by decide, by decide⟩, _, _, rfl, rfl, _, _, rfl, rfl,
        pw_ok (b := 250) (by decide) (by decide) (abs_lt (by omega) (by omega)) (by decide) (by decide), ?_⟩
      refine ⟨10, 42, rfl, rfl, ⟨by decide, by decide, by decide⟩, _, _, rfl, rfl, _, _, rfl, rfl, n42, ?_⟩
      obtain ⟨m1, hm⟩ : ∃ m1, m1 = Int.fmod ((b + 1190494759 * (c + 1)) ^ (3 : Int).toNat) (10 ^ (42 : Int).toNat + 63) := ⟨_, rfl⟩
      dsimp only
      rw [← hm]
      have m0 : 0 ≤ m1 := by rw [hm]; exact fmod_lo p42
      have m2 : m1 < (2 ^ 150 : Nat) := by rw [hm]; exact Int.lt_trans (fmod_hi p42) (by decide)
      refine ⟨_, rfl, _, rfl, _, _, rfl, rfl, wide_mul (a := 150) (b := 150) (abs_lt m0 m2) (abs_lt m0 m2) (by decide) (by decide) (by decide), ?_⟩
      refine ⟨.ref D, rfl, D, _, 2, .int (c + 1), rfl, rfl, hL2, atI_nat (j := 2) rfl, _, _, rfl, rfl, .inl ⟨by decide, by decide⟩, _, _, rfl, rfl, ?_⟩
      refine ⟨10, 44, rfl, rfl, ⟨by decide, by decide, by decide⟩, _, _, rfl, rfl, _, _, rfl, rfl, n44, ?_⟩
      refine ⟨_, rfl, _, _, rfl, rfl, ⟨by decide, by decide⟩, _, rfl, _, _, rfl, rfl, by omega, ?_⟩
      refine q _ _ _ _ (fmod_lo (by omega)) (fmod_hi (by omega)) ⟨hd.a0, hd.b0, hd.b1, by omega, by omega⟩
end
end My
namespace My
open PySem PySem.Spec PyProof.Rows L2
abbrev nN : List Str := ["drum", "many", "gap", "number", "found", "turn", "style", "at"]
theorem scNumbers : FnScope nN ["drum", "many"] (defScope sNumbers) := ⟨rfl, rfl, rfl, by decide +kernel, rfl, by decide +kernel, by decide +kernel⟩
/-- numbers that are not too great -/
def Sm (ns : List Int) : Prop := ∀ x ∈ ns, -(10 ^ 31) ≤ x ∧ x ≤ 10 ^ 31
theorem Sm.perm {a b : List Int} (h : Sm a) (p : b.Perm a) : Sm b := fun x hx => h x (p.mem_iff.mp hx)

/-- the drum D has been turned, new things stand; what stood stands -/
structure DS (H H' : Hp) (D : Addr) (n : Nat) : Prop where
  but : But D H H'
  at0 : H D ≠ none
  dr : ∃ a b c, H' D = some (drl a b c) ∧ Drm a b c n
theorem DS.new {H H' : Hp} {D : Addr} {n : Nat} (S : DS H H' D n) {l : Addr} {o : HO} (e : H' l = none) : DS H (upd H' l o) D n := by
  obtain ⟨a, b, c, h1, h2⟩ := S.dr
  have ne : D ≠ l := ne_of_none h1 e
  refine ⟨S.but.updN ?_, S.at0, a, b, c, by rw [upd_ne ne]; exact h1, h2⟩
  exact S.but.free ne.symm e
theorem DS.fr {H H' : Hp} {D : Addr} {n : Nat} (S : DS H H' D n) {l : Addr} (e : H' l = none) : H l = none := by
  obtain ⟨a, b, c, h1, h2⟩ := S.dr
  exact S.but.free (ne_of_none h1 e).symm e
theorem DS.spin {H H' : Hp} {D : Addr} {n m : Nat} (S : DS H H' D n) {a b c : Int} (d : Drm a b c m) : DS H (upd H' D (drl a b c)) D m :=
  ⟨S.but.updD, S.at0, a, b, c, upd_same, d⟩
theorem DS.write {H H' : Hp} {D : Addr} {n : Nat} (S : DS H H' D n) {l : Addr} {o : HO} (e : H l = none) : DS H (upd H' l o) D n := by
  obtain ⟨a, b, c, h1, h2⟩ := S.dr
  have ne : D ≠ l := fun z => S.at0 (z ▸ e)
  exact ⟨S.but.updN e, S.at0, a, b, c, by rw [upd_ne ne]; exact h1, h2⟩
theorem DS.ne {H H' : Hp} {D : Addr} {n : Nat} (S : DS H H' D n) {l : Addr} (e : H l = none) : l ≠ D := fun z => S.at0 (z ▸ e)

section
variable {P : Program} {w : World} {K : PySem.W.Frag} {mg : Str → Option Value} {base : Heap}
def spNumbers : Sp := fun vs H Q _ => ∃ (D : Addr) (m : Nat) (a b c : Int) (n : Nat), vs = [.ref D, .int m] ∧ m ≤ 200 ∧ H D = some (drl a b c) ∧ Drm a b c n ∧ n ≤ 900000 ∧
  ∀ H' p ns a' b' c', ns.Nodup → ns.length = m → Sm ns → H p = none → But D H H' → H' p = some (.lst (ns.map V.int)) → H' D = some (drl a' b' c') → Drm a' b' c' (n + 3 + 2 * m) → Q (.ref p) H'
def rLen (K : PySem.W.Frag) : List V → Hp → VK → Prop := fun xs H Q => ∃ p ys, xs = [.ref p] ∧ (SqL K H p ys ∨ SqT K H p ys) ∧ Q (.int ys.length) H
abbrev tePop (K : PySem.W.Frag) : TE := tBM K "list" rPopAt (tVar 4) (tCons (tCall spSpin [] E0 (tCons (tVar 0) (tCons (tCB (rLen K) (tCons (tVar 4) tNil)) tNil))) tNil)
theorem Drm.up {a b c : Int} {n m : Nat} (h : Drm a b c n) (l : n ≤ m) : Drm a b c m := ⟨h.a0, h.b0, h.b1, h.c0, by have := h.c1; omega⟩

theorem ok_numbers {f fS : Addr} {fd fdS : FuncData} {k : Nat} (F : Fun K "_law_numbers" "_law_numbers" sNumbers f fd) (T : Txt mg)
    (GS : FnOk P w K mg base CX0 k fS fdS ["drum", "size"] spSpin) (gS : mg "_law_spin" = some (.ref fS)) (kS : PySem.W.keepIn K (.ref fS) = true) (bS : Binds K fdS ["drum", "size"] []) :
    FnOk P w K mg base CX0 (k + 1) f fd ["drum", "many"] spNumbers := by
  refine F.ok scNumbers (fun vs H Q E h => ?_) (fun cdv A outer s H vs Q E hr h => ?_)
  · obtain ⟨D, m, a, b, c, n, rfl, _⟩ := h
    rfl
  · obtain ⟨D, m, a, b, c, n, rfl, hm, hD, hd, hn, q⟩ := h
    refine ⟨_, pss_cons (ps_asg (pe_tup (pa_cons (pe_ix ix_list (pe_lst (pa_cons pe_int (pa_cons pe_int (pa_cons (pe_op op_pow pe_int pe_int) (pa_cons (pe_op op_pow pe_int pe_int) pa_nil)))))
          (pe_call GS hr (by rfl) gS kS bS .nil pass0 (pa_cons (pv 0) (pa_cons pe_int pa_nil))) (fun _ _ => rfl)) (pa_cons pe_int (pa_cons (pe_lst pa_nil) pa_nil))))
        (pg_tup (by rfl) (pgs_cons (pg_name (i := 2) scNumbers.nd rfl (.inl rfl)) (pgs_cons (pg_name (i := 3) scNumbers.nd rfl (.inl rfl)) (pgs_cons (pg_name (i := 4) scNumbers.nd rfl (.inr rfl)) pgs_nil)))))
      (pss_cons (ps_set (i := 3) scNumbers.nd rfl (.inl rfl) (pe_op op_sub (pv 3) (pe_ix ix_list (pe_lst (pa_cons pe_int (pa_cons (pv 1) (pa_cons (pe_op op_fdivN (pe_op op_mul (pv 1) (pv 2)) pe_int) (pa_cons (pe_op op_mul pe_int (pe_op op_pow pe_int pe_int)) pa_nil)))))
          (pe_call GS hr (by rfl) gS kS bS .nil pass0 (pa_cons (pv 0) (pa_cons pe_int pa_nil))) (fun _ _ => rfl))))
      (pss_cons (ps_for PassesOwn.never rfl (pi_range1 (by rfl) T.range (pa_cons (pv 1) pa_nil)) (pg_name (i := 5) scNumbers.nd rfl (.inl rfl))
        (pss_cons (ps_set (i := 3) scNumbers.nd rfl (.inl rfl) (pe_op op_add (pe_op op_add (pv 3) pe_int) (pe_call GS hr (by rfl) gS kS bS .nil pass0 (pa_cons (pv 0) (pa_cons (pv 2) pa_nil)))))
        (pss_one (ps_expr (pe_bm PySem.F.plainAttrs_list PySem.F.slot_list_append PySem.F.type_list_append mt_append (pv 4) (pa_cons (pv 3) pa_nil))))))
      (pss_cons (ps_set (i := 6) scNumbers.nd rfl (.inl rfl) (pe_call GS hr (by rfl) gS kS bS .nil pass0 (pa_cons (pv 0) (pa_cons pe_int pa_nil))))
      (pss_cons (ps_if (pt_cmpR op_eq (pv 6) pe_int (nomark _)) (pss_one (ps_ret (pv 4))) pss_nil)
      (pss_cons (ps_if (pt_cmpR op_eq (pv 6) pe_int (nomark _)) (pss_one (ps_ret (pe_revL (pv 4)))) pss_nil)
      (pss_cons (ps_if (pt_cmpR op_eq (pv 6) pe_int (nomark _))
        (pss_cons (ps_for PassesOwn.never rfl (pi_range1 (by rfl) T.range (pa_cons (pe_op op_fdivN (pv 1) pe_int) pa_nil)) (pg_name (i := 5) scNumbers.nd rfl (.inl rfl))
          (pss_cons (ps_set (i := 7) scNumbers.nd rfl (.inl rfl) (pe_call GS hr (by rfl) gS kS bS .nil pass0 (pa_cons (pv 0) (pa_cons (pe_op op_sub (pv 1) pe_int) pa_nil))))
          (pss_one (ps_asg (pe_revL (pe_slice sl_list (pv 4) (po_some (pv 7)) (po_some (pe_op op_add (pv 7) pe_int)))) (pg_slc (pv 4) (po_some (pv 7)) (po_some (pe_op op_add (pv 7) pe_int)))))))
        (pss_one (ps_ret (pv 4)))) pss_nil)
      (pss_one (ps_ret (pe_lc (te := tePop K) (own := [("turn", 5)]) (g := gName 5) (by rfl) scNumbers.nd (pi_range1 (by rfl) T.range (pa_cons (pv 1) pa_nil)) (blkOk_by (own := [("turn", 5)]) (N := nN) (sc := defScope sNumbers) (by decide +kernel))
            (fun _ _ _ _ _ => pg_name (i := 5) scNumbers.nd rfl (Or.inl rfl)) (fun _ _ _ _ _ => pts_nil)
            (fun _ _ _ _ _ => pe_bm PySem.F.plainAttrs_list PySem.F.slot_list_pop PySem.F.type_list_pop mt_popAt (pv 4)
              (pa_cons (pe_call GS hr (by rfl) gS kS bS .nil pass0 (pa_cons (pv 0) (pa_cons (pe_callB call_len_seq (by rfl) T.len PySem.boot_len (pa_cons (pv 4) pa_nil)) pa_nil))) pa_nil))))))))))), ?_⟩
    have S0 : DS H H D n := ⟨But.refl D H, (by rw [hD]; exact fun z => nomatch z), a, b, c, hD, hd⟩
    refine ⟨10, 9, rfl, rfl, ⟨by decide, by decide, by decide⟩, 10, 27, rfl, rfl, ⟨by decide, by decide, by decide⟩, (show 4 ≤ sizeLine by decide), fun l nl => ?_⟩
    have S1 := S0.new (o := .lst [.int 1, .int 3, .int (10 ^ (9 : Int).toNat), .int (10 ^ (27 : Int).toNat)]) nl
    obtain ⟨a1, b1, c1, D1, d1⟩ := S1.dr
    refine ⟨.ref D, rfl, D, 4, a1, b1, c1, n, rfl, D1, d1, by omega, by decide, by decide, fun v1 a2 b2 c2 g0 g1 d2 => ?_⟩
    have S2 := S1.spin d2
    obtain ⟨g, hg, hg1, hg2⟩ := pick4 1 3 (10 ^ (9 : Int).toNat) (10 ^ (27 : Int).toNat) g0 g1 (fun x => 1 ≤ x ∧ x ≤ 10 ^ 27) (by decide) (by decide) (by decide) (by decide)
    have lD : l ≠ D := S0.ne nl
    refine ⟨l, _, _, _, rfl, rfl, SqL.of (by rw [upd_ne lD, upd_same]), hg, Nat.zero_le _, fun fo nfo => ?_⟩
    have ffo := S2.fr nfo
    have S3 := S2.new (o := .lst []) nfo
    refine ⟨(show 3 ≤ sizeLine by decide), fun tp ntp => ?_⟩
    have S4 := S3.new (o := .tup [.int g, .int 0, .ref fo]) ntp
    have nft : fo ≠ tp := ne_of_none upd_same ntp
    refine ⟨tp, _, rfl, .inl (.inl upd_same), rfl, _, _, rfl, _, _, rfl, _, _, rfl, rfl, ?_⟩
    have F4 : (upd (upd (upd (upd H l (.lst [.int 1, .int 3, .int (10 ^ (9 : Int).toNat), .int (10 ^ (27 : Int).toNat)])) D (drl a2 b2 c2)) fo (.lst [])) tp (.tup [.int g, .int 0, .ref fo])) fo = some (.lst []) := by
      rw [upd_ne nft, upd_same]
    generalize (upd (upd (upd (upd H l (.lst [.int 1, .int 3, .int (10 ^ (9 : Int).toNat), .int (10 ^ (27 : Int).toNat)])) D (drl a2 b2 c2)) fo (.lst [])) tp (.tup [.int g, .int 0, .ref fo])) = H4 at S4 F4 ⊢
    have foD : fo ≠ D := S0.ne ffo
    -- the first number
    refine ⟨.int 0, rfl, .int m, rfl, .int m, rfl, .int g, rfl, _, _, rfl, rfl, .inl ⟨by omega, by omega⟩, _, _, rfl, rfl, ⟨by decide, by decide⟩, 10, 29, rfl, rfl, ⟨by decide, by decide, by decide⟩, _, _, rfl, rfl, .inl ⟨by decide, by decide⟩, (show 4 ≤ sizeLine by decide), fun l2 nl2 => ?_⟩
    have S5 := S4.new (o := .lst [.int 0, .int m, .int (((m : Int) * g).fdiv 2), .int (3 * 10 ^ (29 : Int).toNat)]) nl2
    have F5 : upd H4 l2 (.lst [.int 0, .int m, .int (((m : Int) * g).fdiv 2), .int (3 * 10 ^ (29 : Int).toNat)]) fo = some (.lst []) := by
      rw [upd_ne (ne_of_none F4 nl2)]; exact F4
    have l2D : l2 ≠ D := S0.ne (S4.fr nl2)
    have l2at : upd H4 l2 (.lst [.int 0, .int m, .int (((m : Int) * g).fdiv 2), .int (3 * 10 ^ (29 : Int).toNat)]) l2 = some (.lst [.int 0, .int m, .int (((m : Int) * g).fdiv 2), .int (3 * 10 ^ (29 : Int).toNat)]) := upd_same
    have hmg : (m : Int) * g ≤ 200 * 10 ^ 27 := Int.mul_le_mul (by omega) hg2 (by omega) (by decide)
    have hmg0 : 0 ≤ (m : Int) * g := Int.mul_nonneg (by omega) (by omega)
    have hfd : ((m : Int) * g).fdiv 2 = (m : Int) * g / 2 := Int.fdiv_eq_ediv_of_nonneg _ (by decide)
    have hq0 : 0 ≤ ((m : Int) * g).fdiv 2 := by rw [hfd]; omega
    have hq1 : ((m : Int) * g).fdiv 2 ≤ 3 * 10 ^ 29 := by rw [hfd]; omega
    obtain ⟨a3, b3, c3, D5, d5⟩ := S5.dr
    refine ⟨.ref D, rfl, D, 4, a3, b3, c3, n + 1, rfl, D5, d5, by omega, by decide, by decide, fun v2 a4 b4 c4 g2 g3 d4 => ?_⟩
    have S6 := S5.spin d4
    obtain ⟨s0, hs, hs1, hs2⟩ := pick4 0 m (((m : Int) * g).fdiv 2) (3 * 10 ^ (29 : Int).toNat) g2 g3 (fun x => 0 ≤ x ∧ x ≤ 3 * 10 ^ 29) (by decide) ⟨by omega, by omega⟩ ⟨hq0, hq1⟩ (by decide)
    refine ⟨l2, _, _, _, rfl, rfl, SqL.of (by rw [upd_ne l2D]; exact l2at), hs, _, _, rfl, rfl, ?_⟩
    have F6 : upd (upd H4 l2 (.lst [.int 0, .int m, .int (((m : Int) * g).fdiv 2), .int (3 * 10 ^ (29 : Int).toNat)])) D (drl a4 b4 c4) fo = some (.lst []) := by
      rw [upd_ne foD]; exact F5
    generalize upd (upd H4 l2 (.lst [.int 0, .int m, .int (((m : Int) * g).fdiv 2), .int (3 * 10 ^ (29 : Int).toNat)])) D (drl a4 b4 c4) = H6 at S6 F6 ⊢
    -- the loop that makes them
    refine ⟨.int m, rfl, m, rfl, by omega, by omega, for_range (lo := 0) (n := m)
      (fun i σ H' => ∃ (fs : List Int) (num : Int) (y5 : Option V), σ = [some (.ref D), some (.int m), some (.int g), some (.int num), some (.ref fo), y5, none, none] ∧ DS H H' D (n + 2 + i) ∧ H' fo = some (.lst (fs.map V.int)) ∧ fs.length = i ∧
        fs.Pairwise (· < ·) ∧ (∀ x ∈ fs, x ≤ num ∧ -(3 * 10 ^ 29) ≤ x) ∧ -(3 * 10 ^ 29) ≤ num ∧ num ≤ (i : Int) * 10 ^ 27)
      ⟨[], _, none, rfl, S6, F6, rfl, .nil, (fun x hx => nomatch hx), by omega, by omega⟩ ?_ ?_⟩
    · rintro i σ H' hi ⟨fs, num, y5, rfl, S, Fo, hfl, hpw, hb, hlo, hhi⟩
      obtain ⟨a5, b5, c5, D7, d7⟩ := S.dr
      refine ⟨.int num, rfl, _, _, rfl, rfl, .ref D, rfl, .int g, rfl, D, g, a5, b5, c5, n + 2 + i, rfl, D7, d7, by omega, hg1, by omega, fun v a6 b6 c6 h0 h1 d8 => ?_⟩
      have S' := S.spin d8
      have Fo' : upd H' D (drl a6 b6 c6) fo = some (.lst (fs.map V.int)) := by rw [upd_ne foD]; exact Fo
      refine ⟨_, _, rfl, rfl, .ref fo, rfl, .inl ⟨rfl, _, SqL.of Fo'⟩, _, rfl, fo, _, _, rfl, rfl, Fo', ?_, ?_⟩
      · rw [List.length_map]; unfold sizeLine; omega
      refine ⟨fs ++ [num + 1 + v], _, _, rfl, S'.write ffo, ?_, ?_, ?_, ?_, by omega, ?_⟩
      · rw [upd_same, List.map_append]; rfl
      · rw [List.length_append, hfl]; rfl
      · refine List.pairwise_append.mpr ⟨hpw, List.pairwise_singleton _ _, fun x hx y hy => ?_⟩
        have e : y = num + 1 + v := by simpa using hy
        have := (hb x hx).1
        omega
      · intro x hx
        rcases List.mem_append.mp hx with z | z
        · have := hb x z; omega
        · have e : x = num + 1 + v := by simpa using z
          omega
      · have e : ((i + 1 : Nat) : Int) = (i : Int) + 1 := rfl
        rw [e]
        omega
    rintro σ H7 ⟨fs, num, y5, rfl, S7, F7, hfl, hpw, hb, hlo, hhi⟩
    have fsm : Sm fs := fun x hx => by have := hb x hx; omega
    have fnd : fs.Nodup := asc_nodup hpw
    obtain ⟨a5, b5, c5, D7, d7⟩ := S7.dr
    refine ⟨.ref D, rfl, D, 5, a5, b5, c5, n + 2 + m, rfl, D7, d7, by omega, by decide, by decide, fun v3 a6 b6 c6 _ _ d8 => ?_⟩
    have S8 := S7.spin d8
    have F8 : upd H7 D (drl a6 b6 c6) fo = some (.lst (fs.map V.int)) := by rw [upd_ne foD]; exact F7
    generalize upd H7 D (drl a6 b6 c6) = H8 at S8 F8 ⊢
    have fin : ∀ (H' : Hp) (p : Addr) (ns : List Int) (j : Nat), DS H H' D j → j ≤ n + 3 + 2 * m → H p = none → H' p = some (.lst (ns.map V.int)) → ns.Perm fs → Q (.ref p) H' := by
      intro H' p ns j S hj hp hp2 pm
      obtain ⟨a', b', c', e1, e2⟩ := S.dr
      exact q H' p ns a' b' c' (pm.nodup_iff.mpr fnd) (by rw [pm.length_eq]; exact hfl) (fsm.perm pm) hp S.but hp2 e1 (e2.up hj)
    refine ⟨.int v3, rfl, rfl, _, rfl, ite2 (fun _ => ?_) (fun _ => ?_)⟩
    · exact ⟨.ref fo, rfl, fin H8 fo fs _ S8 (by omega) ffo F8 (List.Perm.refl _)⟩
    refine ⟨.int v3, rfl, rfl, _, rfl, ite2 (fun _ => ?_) (fun _ => ?_)⟩
    · refine ⟨.ref fo, rfl, fo, _, rfl, SqL.of F8, fun p np => ?_⟩
      refine fin _ p fs.reverse _ (S8.new np) (by omega) (S8.fr np) ?_ (List.reverse_perm _)
      rw [upd_same, List.map_reverse]
    refine ⟨.int v3, rfl, rfl, _, rfl, ite2 (fun _ => ?_) (fun _ => ?_)⟩
    · have e3 : (m : Int).fdiv 3 = ((m / 3 : Nat) : Int) := by
        rw [Int.fdiv_eq_ediv_of_nonneg _ (by decide)]
        omega
      refine ⟨.int m, rfl, _, _, rfl, rfl, ⟨by decide, by decide⟩, _, rfl, by rw [e3]; omega, by rw [e3]; omega, ?_⟩
      rw [e3, Int.toNat_natCast]
      refine for_range (lo := 0) (n := m / 3)
        (fun i σ H' => ∃ (gs : List Int) (y5 y7 : Option V), σ = [some (.ref D), some (.int m), some (.int g), some (.int num), some (.ref fo), y5, some (.int v3), y7] ∧ DS H H' D (n + 2 + m + 1 + i) ∧ H' fo = some (.lst (gs.map V.int)) ∧ gs.Perm fs)
        ⟨fs, _, none, rfl, S8, F8, List.Perm.refl _⟩ ?_ ?_
      · rintro i σ H' hi ⟨gs, z5, z7, rfl, S, Fo, pm⟩
        obtain ⟨a7, b7, c7, D9, d9⟩ := S.dr
        refine ⟨.ref D, rfl, .int m, rfl, _, _, rfl, rfl, D, (m : Int) - 1, a7, b7, c7, n + 2 + m + 1 + i, rfl, D9, d9, by omega, by omega, by omega, fun v a8 b8 c8 h0 h1 d10 => ?_⟩
        obtain ⟨t, rfl⟩ := Int.eq_ofNat_of_zero_le h0
        have S' := S.spin d10
        have Fo' : upd H' D (drl a8 b8 c8) fo = some (.lst (gs.map V.int)) := by rw [upd_ne foD]; exact Fo
        have hgl : gs.length = m := by rw [pm.length_eq]; exact hfl
        have ht : t + 2 ≤ gs.length := by omega
        refine ⟨.ref fo, rfl, _, rfl, _, rfl, _, rfl, _, _, rfl, rfl, _, rfl, fo, _, rfl, SqL.of Fo', fun p1 np1 => ?_⟩
        have ne1 : fo ≠ p1 := ne_of_none Fo' np1
        refine ⟨p1, _, rfl, SqL.of upd_same, fun p2 np2 => ?_⟩
        have ne12 : p1 ≠ p2 := ne_of_none upd_same np2
        have Fo1 : upd (upd H' D (drl a8 b8 c8)) p1 (.lst (cutV (gs.map V.int) (some (t : Int)) (some ((t : Int) + 2)))) fo = some (.lst (gs.map V.int)) := by rw [upd_ne ne1]; exact Fo'
        have ne2 : fo ≠ p2 := ne_of_none Fo1 np2
        refine ⟨.ref fo, rfl, _, rfl, _, rfl, _, rfl, _, _, rfl, rfl, _, rfl, fo, p2, gs.map V.int, (cutV (gs.map V.int) (some (t : Int)) (some ((t : Int) + 2))).reverse, (t : Int), (t : Int) + 2, rfl, rfl, rfl, rfl, ?_, upd_same, ne2, h0, by omega, ?_, ?_, ?_⟩
        · rw [upd_ne ne2]; exact Fo1
        · rw [List.length_map]; omega
        · rw [List.length_reverse, List.length_map]
          have := cutV_length (gs.map V.int) (some (t : Int)) (some ((t : Int) + 2))
          rw [List.length_map] at this
          unfold sizeLine; omega
        · rw [cut_two ht, swp_vals ht]
          refine ⟨swp gs t, _, _, rfl, ?_, upd_same, (swp_perm gs t).trans pm⟩
          rw [cut_two ht] at np2
          exact ((S'.new np1).new np2).write ffo
      · rintro σ H' ⟨gs, z5, z7, rfl, S, Fo, pm⟩
        exact ⟨.ref fo, rfl, fin H' fo gs _ S (by omega) ffo Fo pm⟩
    · refine ⟨.int m, rfl, m, rfl, by omega, by omega, fun p np => ?_⟩
      have fp := S8.fr np
      have pfo : fo ≠ p := ne_of_none F8 np
      have pD : p ≠ D := S0.ne fp
      refine lc_range (lo := 0) (n := m) (fun i H' => ∃ acc rest : List Int, H' p = some (.lst (acc.map V.int)) ∧ DS H H' D (n + 2 + m + 1 + i) ∧ H' fo = some (.lst (rest.map V.int)) ∧ acc.length = i ∧ (acc ++ rest).Perm fs) ?_ ?_ ?_
      · refine ⟨[], fs, upd_same, S8.new np, by rw [upd_ne pfo]; exact F8, rfl, List.Perm.refl _⟩
      · rintro i H' hi ⟨acc, rest, Fp, S, Fo, hal, pm⟩
        have hrl : acc.length + rest.length = m := by
          have z := pm.length_eq
          rw [List.length_append] at z
          omega
        obtain ⟨a7, b7, c7, D9, d9⟩ := S.dr
        refine ⟨rfl, iteT (B := ∃ acc rest : List Int, H' p = some (.lst (acc.map V.int)) ∧ DS H H' D (n + 2 + m + 1 + (i + 1)) ∧ H' fo = some (.lst (rest.map V.int)) ∧ acc.length = i + 1 ∧ (acc ++ rest).Perm fs) ?_⟩
        refine ⟨.ref fo, rfl, .inl ⟨rfl, _, SqL.of Fo⟩, .ref D, rfl, .ref fo, rfl, fo, _, rfl, .inl (SqL.of Fo), D, (rest.map V.int).length, a7, b7, c7, n + 2 + m + 1 + i, rfl, D9, d9, by omega, ?_, ?_, fun v a8 b8 c8 h0 h1 d10 => ?_⟩
        · rw [List.length_map]; omega
        · rw [List.length_map]; omega
        rw [List.length_map] at h1
        obtain ⟨t, rfl⟩ := Int.eq_ofNat_of_zero_le h0
        have ht : t < rest.length := by omega
        have S' := S.spin d10
        have Fo' : upd H' D (drl a8 b8 c8) fo = some (.lst (rest.map V.int)) := by rw [upd_ne foD]; exact Fo
        have at1 : rest[t]? = some rest[t] := List.getElem?_eq_getElem ht
        refine ⟨fo, _, (t : Int), t, .int rest[t], rfl, rfl, Fo', by omega, by omega, ?_, ?_, acc.map V.int, ?_, ?_, acc ++ [rest[t]], rest.eraseIdx t, ?_, ?_, ?_, ?_, ?_⟩
        · have z := seqIndex_of (k := (t : Int)) (n := (rest.map V.int).length) h0 (by rw [List.length_map]; omega)
          rw [Int.toNat_natCast] at z
          exact z
        · rw [List.getElem?_map, at1]; rfl
        · rw [upd_ne pfo.symm, upd_ne pD]; exact Fp
        · rw [List.length_map]; unfold sizeLine; omega
        · rw [upd_same, List.map_append]; rfl
        · exact (S'.write ffo).write fp
        · rw [upd_ne pfo, upd_same, erase_map]
        · rw [List.length_append, hal]; rfl
        · rw [List.append_assoc]
          exact (List.Perm.append_left acc (erase_perm at1)).trans pm
      · rintro H' ⟨acc, rest, Fp, S, Fo, hal, pm⟩
        have z := pm.length_eq
        rw [List.length_append] at z
        have er : rest = [] := List.eq_nil_of_length_eq_zero (by omega)
        subst er
        rw [List.append_nil] at pm
        exact fin H' p acc _ S (by omega) fp Fp pm
end
end My
namespace My
open PySem PySem.Spec PyProof.Rows L2
theorem scFam : FnScope ["value", "queue", "number"] ["value"] (defScope sFam) := ⟨rfl, rfl, rfl, by decide +kernel, rfl, by decide +kernel, by decide +kernel⟩
theorem scReqF : FnScope ["value"] ["value"] (defScope sReqF) := ⟨rfl, rfl, rfl, by decide +kernel, rfl, by decide +kernel, by decide +kernel⟩
/-- a family of queues stands at a -/
structure FamAt (H : Hp) (a : Addr) (qs : List Addr) (fam : List (List Int)) : Prop where
  top : H a = some (.lst (qs.map V.ref))
  rows : Rws H qs (vv fam)
theorem FamAt.same {H H' : Hp} {a : Addr} {qs : List Addr} {fam : List (List Int)} (F : FamAt H a qs fam) (s : Same H H') : FamAt H' a qs fam := ⟨s _ _ F.top, F.rows.same s⟩
theorem FamAt.row {H : Hp} {a : Addr} {qs : List Addr} {fam : List (List Int)} (F : FamAt H a qs fam) {i : Nat} {q : Addr} (hq : qs[i]? = some q) : ∃ f, fam[i]? = some f ∧ H q = some (.lst (f.map V.int)) := by
  have hl : i < fam.length := by
    have h1 := (List.getElem?_eq_some_iff.mp hq).1
    have h2 := F.rows.len
    rw [vv_len] at h2
    omega
  have e : fam[i]? = some fam[i] := List.getElem?_eq_getElem hl
  exact ⟨_, e, F.rows.get i q _ hq (by rw [List.getElem?_map, e]; rfl)⟩
theorem FamAt.len {H : Hp} {a : Addr} {qs : List Addr} {fam : List (List Int)} (F : FamAt H a qs fam) : qs.length = fam.length := by
  have h := F.rows.len
  rwa [vv_len] at h
theorem flat_snoc {fam : List (List Int)} {i : Nat} {f : List Int} (h : fam[i]? = some f) : (fam.take (i + 1)).flatten = (fam.take i).flatten ++ f := by
  rw [List.take_add_one, h, List.flatten_append]
  simp
theorem flat_take_len {fam : List (List Int)} (i : Nat) : (fam.take i).flatten.length ≤ fam.flatten.length := by
  have e := congrArg List.length (congrArg List.flatten (List.take_append_drop i fam))
  rw [List.flatten_append, List.length_append] at e
  omega
section
variable {P : Program} {w : World} {K : PySem.W.Frag} {mg : Str → Option Value} {base : Heap}
def spFam : Sp := fun vs H Q _ => ∃ (a : Addr) (qs : List Addr) (fam : List (List Int)), vs = [.ref a] ∧ FamAt H a qs fam ∧ fam ≠ [] ∧ fam.flatten.Nodup ∧ fam.flatten.length ≤ 4000 ∧ fam.length ≤ 4000 ∧ ∀ H', Same H H' → Q (.bl true) H'
theorem ok_fam {f fN : Addr} {fd fdN : FuncData} {k : Nat} (F : Fun K "is_family" "is_family" sFam f fd) (T : Txt mg)
    (GN : FnOk P w K mg base CX0 k fN fdN ["value"] spNums) (gN : mg "is_numbers" = some (.ref fN)) (kN : PySem.W.keepIn K (.ref fN) = true) (bN : Binds K fdN ["value"] []) :
    FnOk P w K mg base CX0 (k + 1) f fd ["value"] spFam := by
  refine F.ok scFam (fun vs H Q E h => ?_) (fun cdv A outer s H vs Q E hr h => ?_)
  · obtain ⟨a, qs, fam, rfl, _⟩ := h
    rfl
  · obtain ⟨a, qs, fam, rfl, FA, ne, nd, hl, hl2, q⟩ := h
    refine ⟨_, pss_cons (ps_if (PW.pt (pw_or (pt_not (pt_val (pe_callB call_isi (by rfl) T.isi (by decide +kernel) (pa_cons (pv 0) (pa_cons (pe_bltn (by rfl) T.list (by decide +kernel) (v := .ty "list") rfl) pa_nil)))))
          (pw_or1 (pt_cmpR op_eq (pe_callB call_len_seq (by rfl) T.len PySem.boot_len (pa_cons (pv 0) pa_nil)) pe_int (nomark _))))) (pss_one (ps_ret pe_bl)) pss_nil)
      (pss_cons (ps_if (pt_not (pt_val (pe_callB (cr_all rfl) (by rfl) T.all (by decide +kernel) (pa_cons
          (pe_lc (te := tCB (rIsi K) (tCons (tVar 1) (tCons (tC (.ty "list")) tNil))) (own := [("queue", 1)]) (g := gName 1) (by rfl) scFam.nd (pi_list (pv 0)) (blkOk_by (own := [("queue", 1)]) (N := ["value", "queue", "number"]) (sc := defScope sFam) (by decide +kernel))
            (fun _ _ _ _ _ => pg_name (i := 1) scFam.nd rfl (Or.inl rfl)) (fun _ _ _ _ _ => pts_nil)
            (fun _ _ _ _ _ => pe_callB call_isi (by rfl) T.isi (by decide +kernel) (pa_cons (pv 1) (pa_cons (pe_bltn (by rfl) T.list (by decide +kernel) (v := .ty "list") rfl) pa_nil)))) pa_nil)))) (pss_one (ps_ret pe_bl)) pss_nil)
      (pss_one (ps_ret (pe_call GN hr (by rfl) gN kN bN .nil pass0 (pa_cons
          (pe_lc2 (wi1 := iList K (tVar 1)) (own := [("queue", 1), ("number", 2)]) (vs1 := [2]) (g := gName 1) (g1 := gName 2) (by rfl) scFam.nd (pi_list (pv 0)) (blkOk_by (own := [("queue", 1), ("number", 2)]) (N := ["value", "queue", "number"]) (sc := defScope sFam) (by decide +kernel)) (by decide)
            (fun _ _ _ _ _ => pg_name (i := 1) scFam.nd rfl (Or.inl rfl)) (fun _ _ _ _ _ => pts_nil)
            (fun _ _ _ _ _ => pi_list (pv 1))
            (fun _ _ _ _ _ => pg_name (i := 2) scFam.nd rfl (Or.inl rfl)) (fun _ _ _ _ _ => pts_nil)
            (fun _ _ _ _ _ => pv 2)) pa_nil))))), ?_⟩
    refine ⟨.ref a, rfl, .ref a, .ty "list", .type "list", .type "list", true, rfl, .ty _, .base (.lst FA.top), kit_ll, true, rfl, iteF ?_⟩
    refine ⟨.ref a, rfl, a, _, rfl, .inl (SqL.of FA.top), rfl, _, rfl, ?_⟩
    have e0 : decide (V.int ((qs.map V.ref).length : Nat) = V.int 0) = false := by
      apply decide_eq_false
      intro z
      have z2 := V.int.inj z
      rw [List.length_map, FA.len] at z2
      exact ne (List.eq_nil_of_length_eq_zero (by omega))
    rw [e0]
    refine iteF ?_
    -- all are lists
    refine ⟨.ref a, rfl, a, rfl, ⟨_, SqL.of FA.top⟩, fun D nD => ?_⟩
    have na : a ≠ D := ne_of_none FA.top nD
    refine lc_list (K := K) (a := a) (xs := qs.map V.ref) (fun i H' => H' = upd H D (.lst ((List.replicate i true).map V.bl))) rfl ?_ ?_ ?_
    · rintro i H' _ rfl
      exact SqL.of (by rw [upd_ne na]; exact FA.top)
    · rintro i x H' hx rfl
      rw [List.getElem?_map] at hx
      obtain ⟨qq, hq, rfl⟩ := Option.map_eq_some_iff.mp hx
      obtain ⟨f2, _, hf⟩ := FA.row hq
      have hi := (List.getElem?_eq_some_iff.mp hq).1
      have hlq := FA.len
      have qD : qq ≠ D := ne_of_none hf nD
      refine ⟨rfl, iteT (B := upd H D (.lst ((List.replicate i true).map V.bl)) = upd H D (.lst ((List.replicate (i + 1) true).map V.bl))) ?_⟩
      refine ⟨.ref qq, rfl, .ref qq, .ty "list", .type "list", .type "list", true, rfl, .ty _, .base (.lst (xs := f2.map V.int) (by rw [upd_ne qD]; exact hf)), kit_ll, _, upd_same, ?_, ?_⟩
      · rw [List.length_map, List.length_replicate]; unfold sizeLine; omega
      · rw [upd_upd, List.replicate_succ', List.map_append]; rfl
    rintro H' rfl
    have ea : (List.replicate (qs.map V.ref).length true).all id = true := by simp
    refine ⟨D, _, rfl, SqL.of upd_same, ?_⟩
    rw [ea]
    refine ⟨true, rfl, iteF ?_⟩
    have sm1 : Same H (upd H D (.lst ((List.replicate (qs.map V.ref).length true).map V.bl))) := sameN nD
    generalize upd H D (.lst ((List.replicate (qs.map V.ref).length true).map V.bl)) = H1 at sm1 ⊢
    have FA1 := FA.same sm1
    -- all numbers in one list
    refine ⟨.ref a, rfl, a, rfl, ⟨_, SqL.of FA1.top⟩, fun L nL => ?_⟩
    have naL : a ≠ L := ne_of_none FA1.top nL
    refine ⟨fun i m H' => m = qs.length - i ∧ i ≤ qs.length ∧ H' = upd H1 L (.lst (((fam.take i).flatten).map V.int)), ⟨qs.length, rfl, Nat.zero_le _, rfl⟩, ?_⟩
    rintro i m H' ⟨em, le, rfl⟩
    have topL : ∀ o, upd H1 L o a = some (.lst (qs.map V.ref)) := fun o => by rw [upd_ne naL]; exact FA1.top
    rcases Nat.lt_or_ge i qs.length with lt | ge
    · have hq : qs[i]? = some qs[i] := List.getElem?_eq_getElem lt
      obtain ⟨f2, ef, hf⟩ := FA1.row hq
      have qL : qs[i] ≠ L := ne_of_none hf nL
      refine Or.inr ⟨⟨_, .ref qs[i], SqL.of (topL _), by rw [List.getElem?_map, hq]; rfl⟩, fun H' => H' = upd H1 L (.lst (((fam.take (i + 1)).flatten).map V.int)), fun H' e => ⟨qs.length - (i + 1), by omega, rfl, lt, e⟩, ?_⟩
      rintro x H' ⟨rfl, fx⟩
      have ex : x = .ref qs[i] := by
        have z := fx _ (SqL.of (topL _))
        rw [List.getElem?_map, hq] at z
        exact (Option.some.inj z).symm
      subst ex
      refine ⟨rfl, iteT (B := upd H1 L (.lst (((fam.take i).flatten).map V.int)) = upd H1 L (.lst (((fam.take (i + 1)).flatten).map V.int))) ?_⟩
      have rowL : ∀ o, upd H1 L o qs[i] = some (.lst (f2.map V.int)) := fun o => by rw [upd_ne qL]; exact hf
      refine ⟨.ref qs[i], rfl, qs[i], rfl, ⟨_, SqL.of (rowL _)⟩, ?_⟩
      refine ⟨fun j k H' => k = f2.length - j ∧ j ≤ f2.length ∧ H' = upd H1 L (.lst (((fam.take i).flatten ++ f2.take j).map V.int)), ⟨f2.length, rfl, Nat.zero_le _, by rw [List.take_zero, List.append_nil]⟩, ?_⟩
      rintro j k H' ⟨ek, le2, rfl⟩
      rcases Nat.lt_or_ge j f2.length with lt2 | ge2
      · have hn : f2[j]? = some f2[j] := List.getElem?_eq_getElem lt2
        refine Or.inr ⟨⟨_, .int f2[j], SqL.of (rowL _), by rw [List.getElem?_map, hn]; rfl⟩, fun H' => H' = upd H1 L (.lst (((fam.take i).flatten ++ f2.take (j + 1)).map V.int)), fun H' e => ⟨f2.length - (j + 1), by omega, rfl, lt2, e⟩, ?_⟩
        rintro y H' ⟨rfl, fy⟩
        have ey : y = .int f2[j] := by
          have z := fy _ (SqL.of (rowL _))
          rw [List.getElem?_map, hn] at z
          exact (Option.some.inj z).symm
        subst ey
        refine ⟨rfl, iteT (B := upd H1 L (.lst (((fam.take i).flatten ++ f2.take j).map V.int)) = upd H1 L (.lst (((fam.take i).flatten ++ f2.take (j + 1)).map V.int))) ?_⟩
        refine ⟨.int f2[j], rfl, _, upd_same, ?_, ?_⟩
        · have h1 := flat_take_len (fam := fam) (i + 1)
          rw [flat_snoc ef, List.length_append] at h1
          rw [List.length_map, List.length_append, List.length_take]
          unfold sizeLine; omega
        · rw [upd_upd, List.take_add_one, hn, ← List.append_assoc, List.map_append (l₁ := (fam.take i).flatten ++ f2.take j)]; rfl
      · refine Or.inl ⟨⟨_, SqL.of (rowL _), by rw [List.length_map]; exact ge2⟩, ?_⟩
        rw [flat_snoc ef, List.take_of_length_le ge2]
    · have e : i = qs.length := by omega
      subst e
      refine Or.inl ⟨⟨_, SqL.of (topL _), by rw [List.length_map]; exact Nat.le_refl _⟩, ?_⟩
      have ef : fam.take qs.length = fam := List.take_of_length_le (by rw [FA.len]; exact Nat.le_refl _)
      rw [ef]
      refine ⟨L, fam.flatten, rfl, upd_same, nd, hl, fun H' sm => q H' ?_⟩
      exact sm1.trans ((sameN nL).trans sm)
def spReqF : Sp := fun vs H Q _ => ∃ (a : Addr) (qs : List Addr) (fam : List (List Int)), vs = [.ref a] ∧ FamAt H a qs fam ∧ fam ≠ [] ∧ fam.flatten.Nodup ∧ fam.flatten.length ≤ 4000 ∧ fam.length ≤ 4000 ∧ ∀ H', Same H H' → Q .non H'
theorem ok_reqf {f fN : Addr} {fd fdN : FuncData} {k : Nat} (F : Fun K "require_family" "require_family" sReqF f fd)
    (GN : FnOk P w K mg base CX0 k fN fdN ["value"] spFam) (gN : mg "is_family" = some (.ref fN)) (kN : PySem.W.keepIn K (.ref fN) = true) (bN : Binds K fdN ["value"] []) :
    FnOk P w K mg base CX0 (k + 1) f fd ["value"] spReqF := by
  refine F.ok scReqF (fun vs H Q E h => ?_) (fun cdv A outer s H vs Q E hr h => ?_)
  · obtain ⟨a, qs, fam, rfl, _⟩ := h
    rfl
  · obtain ⟨a, qs, fam, rfl, FA, ne, nd, hl, hl2, q⟩ := h
    refine ⟨_, pss_one (ps_if (pt_not (pt_val (pe_call GN hr (by rfl) gN kN bN .nil pass0 (pa_cons (pv 0) pa_nil)))) (pss_one ps_never) pss_nil), ?_⟩
    exact ⟨.ref a, rfl, a, qs, fam, rfl, FA, ne, nd, hl, hl2, fun H' sm => ⟨true, rfl, iteF (q H' sm)⟩⟩
end
end My
namespace My
open PySem PySem.Spec PyProof.Rows L2 LamX
/-! blocks with the index of their queue -/
def plc : Nat → List (List Int) → List (Nat × List Int)
  | _, [] => []
  | i, q :: qs => (cut q).map (fun b => (i, b)) ++ plc (i + 1) qs
theorem plc_app : ∀ (xs ys : List (List Int)) (k : Nat), plc k (xs ++ ys) = plc k xs ++ plc (k + xs.length) ys
  | [], ys, k => by simp [plc]
  | x :: xs, ys, k => by
    have e : k + (x :: xs).length = k + 1 + xs.length := by rw [List.length_cons]; omega
    show (cut x).map (fun b => (k, b)) ++ plc (k + 1) (xs ++ ys) = _
    rw [plc_app xs ys (k + 1), e, ← List.append_assoc]
    rfl
theorem plc_snoc {fam : List (List Int)} {i : Nat} {q : List Int} (h : fam[i]? = some q) : plc 0 (fam.take (i + 1)) = plc 0 (fam.take i) ++ (cut q).map (fun b => (i, b)) := by
  have hi := (List.getElem?_eq_some_iff.mp h).1
  rw [List.take_add_one, h, plc_app]
  have e : 0 + (fam.take i).length = i := by rw [List.length_take]; omega
  rw [e]
  simp [plc]
theorem plc_snd : ∀ (fam : List (List Int)) (k : Nat), (plc k fam).map (·.2) = cuts fam
  | [], _ => rfl
  | q :: qs, k => by
    show ((cut q).map (fun b => (k, b)) ++ plc (k + 1) qs).map (·.2) = cut q ++ cuts qs
    rw [List.map_append, plc_snd qs (k + 1), List.map_map]
    have e : ((fun x : Nat × List Int => x.2) ∘ fun b => (k, b)) = id := rfl
    rw [e, List.map_id]
theorem plc_mem : ∀ (fam : List (List Int)) (k : Nat) {r : Nat × List Int}, r ∈ plc k fam → ∃ q, fam[r.1 - k]? = some q ∧ k ≤ r.1 ∧ r.2 ∈ cut q
  | [], _, _, h => by simp [plc] at h
  | q :: qs, k, r, h => by
    rcases List.mem_append.mp h with z | z
    · obtain ⟨b, hb, e⟩ := List.mem_map.mp z
      subst e
      exact ⟨q, by simp, Nat.le_refl _, hb⟩
    · obtain ⟨q2, h1, h2, h3⟩ := plc_mem qs (k + 1) z
      refine ⟨q2, ?_, by omega, h3⟩
      have e : r.1 - k = (r.1 - (k + 1)) + 1 := by omega
      rw [e, List.getElem?_cons_succ]
      exact h1
theorem plc_len (fam : List (List Int)) : (plc 0 fam).length ≤ fam.flatten.length := by
  have h1 := congrArg List.length (plc_snd fam 0)
  rw [List.length_map] at h1
  have h2 := flat_len (bs := cuts fam) fun b hb => by
    obtain ⟨q, _, hq⟩ := cuts_mem hb
    exact (cut_mem hq).1
  rw [cuts_flat] at h2
  omega
def srt (fam : List (List Int)) : List (Nat × List Int) := bySm (fun r : Nat × List Int => hd r.2) (plc 0 fam)
theorem srt_snd {fam : List (List Int)} (nd : fam.flatten.Nodup) : (srt fam).map (·.2) = bySm hd (cuts fam) := by
  refine by_one ?_ (cuts_nd nd) ?_
  · have := (by_perm (fun r : Nat × List Int => hd r.2) (plc 0 fam)).map (·.2)
    rw [plc_snd] at this
    exact this
  · exact List.pairwise_map.mpr (by_sorted (fun r : Nat × List Int => hd r.2) (plc 0 fam))
theorem perm_back {α β : Type} {f : α → β} : ∀ {ys xs : List β}, ys.Perm xs → ∀ zs : List α, xs = zs.map f → ∃ zs' : List α, zs'.Perm zs ∧ ys = zs'.map f := by
  intro ys xs p
  induction p with
  | nil =>
    intro zs e
    exact ⟨[], by rw [List.map_eq_nil_iff.mp e.symm], rfl⟩
  | cons x _ ih =>
    intro zs e
    cases zs with
    | nil => cases e
    | cons z zs =>
      obtain ⟨e1, e2⟩ := List.cons.inj e
      obtain ⟨w, p, e3⟩ := ih zs e2
      exact ⟨z :: w, p.cons z, by rw [e3, e1]; rfl⟩
  | swap x y l =>
    intro zs e
    cases zs with
    | nil => cases e
    | cons z zs =>
      cases zs with
      | nil => cases (List.cons.inj e).2
      | cons z2 zs =>
        obtain ⟨e1, e2⟩ := List.cons.inj e
        obtain ⟨e3, e4⟩ := List.cons.inj e2
        exact ⟨z2 :: z :: zs, List.Perm.swap z z2 zs, by rw [e1, e3, e4]; rfl⟩
  | trans _ _ ih1 ih2 =>
    intro zs e
    obtain ⟨w, p1, e1⟩ := ih2 zs e
    obtain ⟨v, p2, e2⟩ := ih1 w e1
    exact ⟨v, p2.trans p1, e2⟩

/-- nothing but a table was tracked there -/
def WF (H : Hp) (l : Addr) : Prop := ∀ o, H l = some o → ∃ ps, o = .tbl ps
theorem WF.of {H : Hp} {l : Addr} (h : H l = none) : WF H l := fun o e => by rw [h] at e; cases e
theorem WF.ext {H H' : Hp} {l : Addr} (e : ExtN H H') (h : WF H' l) : WF H l := fun o eo => by
  cases o with
  | tbl ps => exact ⟨ps, rfl⟩
  | _ =>
    have := h _ (e _ _ eo (fun ps z => nomatch z))
    exact this
theorem xlst {H H' : Hp} {a : Addr} {xs : List V} (e : ExtN H H') (h : H a = some (.lst xs)) : H' a = some (.lst xs) := e _ _ h (fun ps z => nomatch z)
theorem xtup {H H' : Hp} {a : Addr} {xs : List V} (e : ExtN H H') (h : H a = some (.tup xs)) : H' a = some (.tup xs) := e _ _ h (fun ps z => nomatch z)
theorem xsq {K : PySem.W.Frag} {H H' : Hp} {a : Addr} {xs : List V} (e : ExtN H H') (h : SqL K H a xs) : SqL K H' a xs := by
  rcases h with (h | ⟨o, h⟩) | h
  · exact Or.inl (Or.inl (xlst e h))
  · exact Or.inl (Or.inr ⟨o, e _ _ h (fun ps z => nomatch z)⟩)
  · exact Or.inr h
theorem xsm {H H' : Hp} (s : Same H H') : ExtN H H' := ExtN.of s
theorem xnw {H H' : Hp} {l : Addr} {o : HO} (e : ExtN H H') (n : H' l = none) : ExtN H (upd H' l o) := fun b u h1 h2 => by
  have h3 := e b u h1 h2
  rw [upd_ne (ne_of_none h3 n)]
  exact h3
theorem xwr {H H' : Hp} {l : Addr} {o : HO} (e : ExtN H H') (n : WF H l) : ExtN H (upd H' l o) := fun b u h1 h2 => by
  have ne : b ≠ l := fun z => by
    obtain ⟨ps, h⟩ := n u (by rw [← z]; exact h1)
    exact h2 ps h
  rw [upd_ne ne]
  exact e b u h1 h2
theorem tabs_same {T : List (Addr × Str)} {H H' : Hp} (t : Tabs T H) (s : Same H H') : Tabs T H' := t.ext s
theorem tabs_new {T : List (Addr × Str)} {H : Hp} {l : Addr} {o : HO} (t : Tabs T H) (n : H l = none) : Tabs T (upd H l o) := t.ext (sameN n)
theorem tabs_but {T : List (Addr × Str)} {H H' : Hp} {D : Addr} {xs : List V} (t : Tabs T H) (b : But D H H') (h : H D = some (.lst xs)) : Tabs T H' := by
  intro p hp
  obtain ⟨ps, h1, h2, h3⟩ := t p hp
  have n1 : p.1 ≠ D := fun z => by rw [z, h] at h1; cases h1
  refine ⟨ps, b _ _ n1 h1, h2, fun pos cv hc => ?_⟩
  obtain ⟨c, e1, e2⟩ := h3 pos cv hc
  have n2 : c ≠ D := fun z => by
    rw [z, h] at e2
    unfold CodeO at e2
    cases e2
  exact ⟨c, e1, b _ _ n2 e2⟩
theorem tabs_write {T : List (Addr × Str)} {H : Hp} {D : Addr} {xs : List V} {o : HO} (t : Tabs T H) (h : H D = some (.lst xs)) : Tabs T (upd H D o) := tabs_but t (fun b u n e => by rw [upd_ne n]; exact e) h

/-- a row: its tuple, its block's list, the queue's index, the block -/
abbrev Rw := Addr × Addr × Nat × List Int
structure RowAt (H : Hp) (z : Rw) : Prop where
  tup : H z.1 = some (.tup [.int (hd z.2.2.2), .int (z.2.2.1 : Int), .ref z.2.1])
  blk : H z.2.1 = some (.lst (z.2.2.2.map V.int))
theorem RowAt.ext {H H' : Hp} {z : Rw} (r : RowAt H z) (e : ExtN H H') : RowAt H' z := ⟨xtup e r.tup, xlst e r.blk⟩
def keyAt (H : Hp) : V → Int
  | .ref t => match H t with
    | some (.tup (.int k :: _)) => k
    | _ => 0
  | _ => 0
abbrev nP : List Str := ["queues", "placed", "index", "queue", "block"]
theorem scPlaced : FnScope nP ["queues"] (defScope sPlaced) := ⟨rfl, rfl, rfl, by decide +kernel, rfl, by decide +kernel, by decide +kernel⟩
abbrev nMQ : List Str := ["queues", "result", "record", "index", "block"]
theorem scMergeQ : FnScope nMQ ["queues"] (defScope sMergeQ) := ⟨rfl, rfl, rfl, by decide +kernel, rfl, by decide +kernel, by decide +kernel⟩
theorem scMerged : FnScope ["family"] ["family"] (defScope sMerged) := ⟨rfl, rfl, rfl, by decide +kernel, rfl, by decide +kernel, by decide +kernel⟩
abbrev nAs : List Str := ["family", "record", "index", "block"]
theorem scAssign : FnScope nAs ["family"] (defScope sAssign) := ⟨rfl, rfl, rfl, by decide +kernel, rfl, by decide +kernel, by decide +kernel⟩

section
variable {P : Program} {w : World} {K : PySem.W.Frag} {mg : Str → Option Value} {base : Heap}
def spPlaced (T : List (Addr × Str)) : Sp := fun vs H Q _ => ∃ (a : Addr) (qs : List Addr) (fam : List (List Int)), vs = [.ref a] ∧ FamAt H a qs fam ∧ fam.flatten.Nodup ∧ fam.flatten.length ≤ 4000 ∧ fam.length ≤ 4000 ∧ Tabs T H ∧
  ∀ (H' : Hp) (p : Addr) (zs : List Rw), ExtN H H' → Tabs T H' → WF H p → H' p = some (.lst (zs.map fun z => V.ref z.1)) → (∀ z ∈ zs, RowAt H' z ∧ H z.2.1 = none) → zs.map (fun z => z.2.2) = srt fam → Q (.ref p) H'
theorem ok_placed {T : List (Addr × Str)} {f c Pt : Addr} {oc : Value} {od an : Option Addr} {osl : Array (Option Value)} {kV doc pm ct : Value} {k : Nat} {fS : Addr} {fdS : FuncData}
    (lk : K.lookup f = some ⟨oc, od, .func (PySem.W.fnOf "placed_blocks" "placed_blocks" (defArgs sPlaced) (defBody sPlaced) (defScope sPlaced) .none kV doc pm an (.ref c) ct), osl⟩)
    (hcd : PySem.W.codeIn K (.ref c) "placed_blocks" = true) (X : Txt mg) (TB : TabB base mg c Pt)
    (hmem : (Pt, ("placed_blocks.<locals>." : Str) ++ "<lambda>") ∈ T) (hu : ∀ p ∈ T, p.1 = Pt → p.2 = ("placed_blocks.<locals>." : Str) ++ "<lambda>")
    (GS : FnOk P w K mg base CX0 (k + 2) fS fdS ["numbers"] spSplit) (gS : mg "split_blocks" = some (.ref fS)) (kS : PySem.W.keepIn K (.ref fS) = true) (bS : Binds K fdS ["numbers"] []) :
    FnOk P w K mg base CX0 (k + 2 + 1) f (PySem.W.fnOf "placed_blocks" "placed_blocks" (defArgs sPlaced) (defBody sPlaced) (defScope sPlaced) .none kV doc pm an (.ref c) ct) ["queues"] (spPlaced T) := by
  refine fn_of lk hcd scPlaced (fun vs H Q E h => ?_) (fun A outer s H vs Q E hr h => ?_)
  · obtain ⟨a, qs, fam, rfl, _⟩ := h
    rfl
  · obtain ⟨a, qs, fam, rfl, FA, nd, hl, hl2, tb, q⟩ := h
    have hr2 : Room 2 (A.deeper (envOfC "placed_blocks" (defScope sPlaced) s.heap.objs.size f (.ref c))) := hr.mono (by omega)
    have body : ∃ t, PSs (cxOf CX0 P w K mg base nP "placed_blocks" (defScope sPlaced) f (.ref c) A outer s H E).nox (defBody sPlaced) t ∧ t { nx := fun _ H' => Q .non H', rt := Q } (start nP [.ref a]) H := by
      refine ⟨_, pss_cons (ps_set (i := 1) scPlaced.nd rfl (.inl rfl) (pe_lst pa_nil))
        (pss_cons (ps_for PassesOwn.never rfl (pi_enum (by rfl) X.enum (pa_cons (pv 0) pa_nil)) (pg_tup (by rfl) (pgs_cons (pg_name (i := 2) scPlaced.nd rfl (.inl rfl)) (pgs_cons (pg_name (i := 3) scPlaced.nd rfl (.inl rfl)) pgs_nil)))
          (pss_one (ps_for PassesOwn.never rfl (pi_list (pe_call GS hr (by rfl) gS kS bS .nil pass0 (pa_cons (pv 3) pa_nil))) (pg_name (i := 4) scPlaced.nd rfl (.inl rfl))
            (pss_one (ps_expr (pe_bm PySem.F.plainAttrs_list PySem.F.slot_list_append PySem.F.type_list_append mt_append (pv 1)
              (pa_cons (pe_tup (pa_cons (pe_ix ix_list (pv 4) pe_int (fun _ _ => rfl)) (pa_cons (pv 2) (pa_cons (pv 4) pa_nil)))) pa_nil)))))))
        (pss_one (ps_ret (pe_srt (T := T) (by rfl) X.sorted (pa_cons (pv 1) pa_nil) TB rfl hmem hu hr2 rfl rfl rfl rfl rfl (by decide) (fun _ _ _ _ _ _ => rfl))))), ?_⟩
      refine ⟨Nat.zero_le _, fun p np => ?_⟩
      have nap : a ≠ p := ne_of_none FA.top np
      refine ⟨.ref a, rfl, a, _, rfl, SqL.of (by rw [upd_ne nap]; exact FA.top), for_en (K := K) (a := a) (xs := qs.map V.ref)
        (fun i σ H' => ∃ y2 y3 y4, ∃ zs : List Rw, σ = [some (.ref a), some (.ref p), y2, y3, y4] ∧ Same H H' ∧ H' p = some (.lst (zs.map fun z => V.ref z.1)) ∧ (∀ z ∈ zs, RowAt H' z ∧ H z.2.1 = none ∧ z.2.1 ≠ p) ∧ zs.map (fun z => z.2.2) = plc 0 (fam.take i))
        ⟨none, none, none, [], rfl, sameN np, upd_same, (fun z hz => nomatch hz), rfl⟩ ?_ ?_ ?_⟩
      · rintro i σ H' _ ⟨_, _, _, zs, _, sm, _⟩
        exact SqL.of (sm _ _ FA.top)
      · rintro i x σ H' tp hx ⟨y2, y3, y4, zs, rfl, sm, hp, hz, hzs⟩ ntp
        rw [List.getElem?_map] at hx
        obtain ⟨qq, hq, rfl⟩ := Option.map_eq_some_iff.mp hx
        obtain ⟨f2, ef, hf⟩ := FA.row hq
        have hfl : f2.length ≤ 4000 := by
          have h1 := flat_take_len (fam := fam) (i + 1)
          rw [flat_snoc ef, List.length_append] at h1
          omega
        have npt : p ≠ tp := ne_of_none hp ntp
        refine ⟨tp, _, rfl, .inl (.inl upd_same), rfl, _, _, rfl, _, _, rfl, rfl, ?_⟩
        have sm1 : Same H (upd H' tp (.tup [.int (i : Nat), .ref qq])) := same0 sm (sm.free ntp)
        have hp1 : upd H' tp (.tup [.int (i : Nat), .ref qq]) p = some (.lst (zs.map fun z => V.ref z.1)) := by rw [upd_ne npt]; exact hp
        have hz1 : ∀ z ∈ zs, RowAt (upd H' tp (.tup [.int (i : Nat), .ref qq])) z ∧ H z.2.1 = none ∧ z.2.1 ≠ p := fun z hm => ⟨(hz z hm).1.ext (xsm (sameN ntp)), (hz z hm).2⟩
        generalize upd H' tp (.tup [.int (i : Nat), .ref qq]) = H1 at sm1 hp1 hz1 ⊢
        refine ⟨.ref qq, rfl, qq, f2, rfl, sm1 _ _ hf, hfl, fun H2 pb qb N => ?_⟩
        have hlen : ∀ j, (plc 0 (fam.take i) ++ ((cut f2).take j).map (fun b => (i, b))).length ≤ 4000 := by
          intro j
          have h1 := plc_len (fam.take (i + 1))
          rw [plc_snoc ef, List.length_append, List.length_map] at h1
          have h2 := flat_take_len (fam := fam) (i + 1)
          rw [List.length_append, List.length_map, List.length_take]
          omega
        refine ⟨pb, rfl, ⟨_, SqL.of N.top⟩, for_list (K := K) (a := pb) (xs := qb.map V.ref)
          (fun j σ H3 => ∃ y4, ∃ ws : List Rw, σ = [some (.ref a), some (.ref p), some (.int (i : Int)), some (.ref qq), y4] ∧ ExtN H H3 ∧ (∀ b o, b ≠ p → H2 b = some o → H3 b = some o) ∧ Same H H3 ∧ H3 p = some (.lst (ws.map fun z => V.ref z.1)) ∧ (∀ z ∈ ws, RowAt H3 z ∧ H z.2.1 = none ∧ z.2.1 ≠ p) ∧
            ws.map (fun z => z.2.2) = plc 0 (fam.take i) ++ ((cut f2).take j).map (fun b => (i, b)))
          ⟨y4, zs, rfl, xsm (sm1.trans N.same), (fun b o _ h => h), sm1.trans N.same, N.same _ _ hp1, (fun z hm => ⟨(hz1 z hm).1.ext (xsm N.same), (hz1 z hm).2⟩), by rw [hzs]; simp⟩ ?_ ?_ ?_⟩
        · rintro j σ H3 _ ⟨_, ws, _, _, kp, _⟩
          have npb : pb ≠ p := fun z => by
            have := N.freshp
            rw [z, hp1] at this
            cases this
          exact SqL.of (kp _ _ npb N.top)
        · rintro j x σ H3 hx ⟨y5, ws, rfl, ex3, kp, sm3, hp3, hz3, hws⟩
          rw [List.getElem?_map] at hx
          obtain ⟨ba, hb, rfl⟩ := Option.map_eq_some_iff.mp hx
          have hjl : j < (cut f2).length := by
            have h1 := (List.getElem?_eq_some_iff.mp hb).1
            have h2 := N.rows.len
            rw [vv_len] at h2
            omega
          have hblk : (cut f2)[j]? = some (cut f2)[j] := List.getElem?_eq_getElem hjl
          have hba := N.rows.get j ba _ hb (by rw [List.getElem?_map, hblk]; rfl)
          have fba : H1 ba = none := N.fresh ba (List.mem_of_getElem? hb)
          have nbp : ba ≠ p := fun z => by rw [z, hp1] at fba; cases fba
          have hba3 : H3 ba = some (.lst (((cut f2)[j]).map V.int)) := kp _ _ nbp hba
          have cm := cut_mem (List.mem_of_getElem? hblk)
          obtain ⟨m, r, hmr⟩ : ∃ m r, (cut f2)[j] = m :: r := by
            cases e : (cut f2)[j] with
            | nil => exact absurd e cm.1
            | cons m r => exact ⟨m, r, rfl⟩
          refine ⟨.ref p, rfl, .inl ⟨rfl, _, SqL.of hp3⟩, .ref ba, rfl, ba, _, 0, .int m, rfl, rfl, SqL.of hba3, atI_nat (j := 0) (by rw [hmr]; rfl), _, rfl, _, rfl, (show 3 ≤ sizeLine by decide), fun t nt => ?_⟩
          have npt3 : p ≠ t := ne_of_none hp3 nt
          have ntb : ba ≠ t := ne_of_none hba3 nt
          have ehd : hd (cut f2)[j] = m := by rw [hmr]; rfl
          refine ⟨p, _, _, rfl, rfl, by rw [upd_ne npt3]; exact hp3, ?_, ?_⟩
          · have h1 := congrArg List.length hws
            rw [List.length_map] at h1
            have h2 := hlen j
            rw [List.length_map]
            unfold sizeLine; omega
          have smt : Same H (upd H3 t (.tup [.int m, .int (i : Int), .ref ba])) := same0 sm3 (sm3.free nt)
          refine ⟨_, ws ++ [(t, ba, i, (cut f2)[j])], rfl, xsm (same0 smt np), ?_, same0 smt np, ?_, ?_, ?_⟩
          · intro b o nb hb2
            have h3 := kp b o nb hb2
            rw [upd_ne nb, upd_ne (ne_of_none h3 nt)]
            exact h3
          · rw [upd_same, List.map_append]; rfl
          · intro z hm
            rcases List.mem_append.mp hm with y | y
            · obtain ⟨r1, r2, r3⟩ := hz3 z y
              have r4 : RowAt (upd H3 t (.tup [.int m, .int (i : Int), .ref ba])) z := r1.ext (xsm (sameN nt))
              have n1 : z.1 ≠ p := fun e => by
                have := r1.tup
                rw [e, hp3] at this
                cases this
              exact ⟨⟨by rw [upd_ne n1]; exact r4.tup, by rw [upd_ne r3]; exact r4.blk⟩, r2, r3⟩
            · have e : z = (t, ba, i, (cut f2)[j]) := by simpa using y
              subst e
              refine ⟨⟨?_, ?_⟩, sm1.free fba, nbp⟩
              · show upd (upd H3 t (.tup [.int m, .int (i : Int), .ref ba])) p _ t = some (.tup [.int (hd (cut f2)[j]), .int (i : Int), .ref ba])
                rw [upd_ne npt3.symm, upd_same, ehd]
              · show upd (upd H3 t (.tup [.int m, .int (i : Int), .ref ba])) p _ ba = some (.lst (((cut f2)[j]).map V.int))
                rw [upd_ne nbp, upd_ne ntb]
                exact hba3
          · rw [List.map_append, hws, List.take_add_one, hblk, List.map_append, List.append_assoc]
            rfl
        · rintro σ H3 ⟨y5, ws, rfl, ex3, kp, sm3, hp3, hz3, hws⟩
          refine ⟨_, _, _, ws, rfl, sm3, hp3, hz3, ?_⟩
          have hqb : (qb.map V.ref).length = (cut f2).length := by
            have h2 := N.rows.len
            rw [vv_len] at h2
            rw [List.length_map]
            exact h2
          rw [hqb, List.take_length] at hws
          rw [hws, plc_snoc ef]
      · rintro σ H' ⟨y2, y3, y4, zs, rfl, sm, hp, hz, hzs⟩
        have hqf : (qs.map V.ref).length = fam.length := by rw [List.length_map]; exact FA.len
        rw [hqf, List.take_length] at hzs
        have hzl : zs.length ≤ 4000 := by
          have h1 := congrArg List.length hzs
          rw [List.length_map] at h1
          have h2 := plc_len fam
          omega
        have kf : ∀ z ∈ zs, keyAt H' (.ref z.1) = hd z.2.2.2 := by
          intro z hm
          show (match H' z.1 with
            | some (.tup (.int k :: _)) => k
            | _ => 0) = hd z.2.2.2
          rw [(hz z hm).1.tup]
        refine ⟨.ref p, rfl, p, _, keyAt H', rfl, SqL.of hp, tabs_same tb sm, by rw [List.length_map]; exact hzl, ?_, ?_⟩
        · intro v hv
          obtain ⟨z, hm, rfl⟩ := List.mem_map.mp hv
          exact ⟨z.1, _, rfl, by rw [kf z hm]; exact (hz z hm).1.tup⟩
        · intro ys p2 H2 pm pw ext t2 np2
          obtain ⟨zs', pz, rfl⟩ := perm_back pm zs rfl
          refine q (upd H2 p2 (.lst (zs'.map fun z => V.ref z.1))) p2 zs' ?_ (tabs_new t2 np2) ?_ upd_same ?_ ?_
          · exact xnw ((xsm sm).trans ext) np2
          · exact WF.ext ((xsm sm).trans ext) (WF.of np2)
          · intro z hm
            have hm2 := pz.mem_iff.mp hm
            exact ⟨((hz z hm2).1.ext ext).ext (xsm (sameN np2)), (hz z hm2).2.1⟩
          · refine by_one ?_ ?_ ?_
            · have := pz.map (fun z => z.2.2)
              rw [hzs] at this
              exact this
            · have := cuts_nd nd
              rw [← plc_snd fam 0, List.map_map] at this
              exact this
            · refine List.pairwise_map.mpr ?_
              refine (List.pairwise_map.mp pw).imp_of_mem ?_
              intro x y hx hy h
              rw [kf x (pz.mem_iff.mp hx), kf y (pz.mem_iff.mp hy)] at h
              exact h
    obtain ⟨t, b1, b2⟩ := body
    exact ⟨t, b1.nox, b2⟩
end
end My
namespace My
open PySem PySem.Spec PyProof.Rows L2 LamX
theorem flat_snoc2 {bs : List (List Int)} {i : Nat} {b : List Int} (h : bs[i]? = some b) : (bs.take (i + 1)).flatten = (bs.take i).flatten ++ b := flat_snoc h
theorem srt_flat {fam : List (List Int)} (nd : fam.flatten.Nodup) : ((srt fam).map (·.2)).flatten = mrg fam := by
  rw [srt_snd nd]
  rfl
theorem mrg_len (fam : List (List Int)) : (mrg fam).length = fam.flatten.length := (mrg_perm fam).length_eq
section
variable {P : Program} {w : World} {K : PySem.W.Frag} {mg : Str → Option Value} {base : Heap}
def spMerge (T : List (Addr × Str)) : Sp := fun vs H Q _ => ∃ (a : Addr) (qs : List Addr) (fam : List (List Int)), vs = [.ref a] ∧ FamAt H a qs fam ∧ fam ≠ [] ∧ fam.flatten.Nodup ∧ fam.flatten.length ≤ 4000 ∧ fam.length ≤ 4000 ∧ Tabs T H ∧
  ∀ (H' : Hp) (p : Addr), ExtN H H' → Tabs T H' → WF H p → H' p = some (.lst ((mrg fam).map V.int)) → Q (.ref p) H'
theorem ok_mergeq {T : List (Addr × Str)} {f fP : Addr} {fd fdP : FuncData} {k : Nat} (F : Fun K "merge_queues" "merge_queues" sMergeQ f fd)
    (GP : FnOk P w K mg base CX0 k fP fdP ["queues"] (spPlaced T)) (gP : mg "placed_blocks" = some (.ref fP)) (kP : PySem.W.keepIn K (.ref fP) = true) (bP : Binds K fdP ["queues"] []) :
    FnOk P w K mg base CX0 (k + 1) f fd ["queues"] (spMerge T) := by
  refine F.ok scMergeQ (fun vs H Q E h => ?_) (fun cdv A outer s H vs Q E hr h => ?_)
  · obtain ⟨a, qs, fam, rfl, _⟩ := h
    rfl
  · obtain ⟨a, qs, fam, rfl, FA, ne, nd, hl, hl2, tb, q⟩ := h
    refine ⟨_, pss_cons (ps_set (i := 1) scMergeQ.nd rfl (.inl rfl) (pe_lst pa_nil))
      (pss_cons (ps_for PassesOwn.never rfl (pi_list (pe_call GP hr (by rfl) gP kP bP .nil pass0 (pa_cons (pv 0) pa_nil)))
          (pg_tup (by rfl) (pgs_cons (pg_name (i := 2) scMergeQ.nd rfl (.inl rfl)) (pgs_cons (pg_name (i := 3) scMergeQ.nd rfl (.inl rfl)) (pgs_cons (pg_name (i := 4) scMergeQ.nd rfl (.inl rfl)) pgs_nil))))
        (pss_one (ps_expr (pe_bm PySem.F.plainAttrs_list PySem.F.slot_list_extend PySem.F.type_list_extend mt_extend (pv 1) (pa_cons (pv 4) pa_nil)))))
      (pss_one (ps_ret (pv 1)))), ?_⟩
    refine ⟨Nat.zero_le _, fun r nr => ?_⟩
    have smr : Same H (upd H r (.lst [])) := sameN nr
    have hr0 : upd H r (.lst []) r = some (.lst []) := upd_same
    refine ⟨.ref a, rfl, a, qs, fam, rfl, FA.same smr, nd, hl, hl2, tabs_same tb smr, fun H1 p zs ext t1 wf hp hz hzs => ?_⟩
    have hr1 : H1 r = some (.lst []) := xlst ext hr0
    have hzr : ∀ z ∈ zs, z.2.1 ≠ r := fun z hm e => by
      have := (hz z hm).2
      rw [e, hr0] at this
      cases this
    have hblk : zs.map (fun z => z.2.2.2) = (srt fam).map (·.2) := by
      rw [← hzs, List.map_map]
      rfl
    have hflat : (zs.map (fun z => z.2.2.2)).flatten = mrg fam := by rw [hblk]; exact srt_flat nd
    have ext0 : ExtN H H1 := (xsm smr).trans ext
    refine ⟨p, rfl, ⟨_, SqL.of hp⟩, for_list (K := K) (a := p) (xs := zs.map fun z => V.ref z.1)
      (fun i σ H' => ∃ y2 y3 y4, σ = [some (.ref a), some (.ref r), y2, y3, y4] ∧ H' = upd H1 r (.lst ((((zs.map (fun z => z.2.2.2)).take i).flatten).map V.int)))
      ⟨none, none, none, rfl, ?_⟩ ?_ ?_ ?_⟩
    · funext b
      by_cases e : b = r
      · subst e; rw [hr1, upd_same]; rfl
      · rw [upd_ne e]
    · rintro i σ H' _ ⟨_, _, _, _, rfl⟩
      have npr : p ≠ r := fun z => by
        rw [z, hr1] at hp
        cases zs with
        | nil =>
          have h0 := wf
          obtain ⟨ps, e⟩ := wf (.lst []) (by rw [z]; exact hr0)
          cases e
        | cons x l => cases hp
      exact SqL.of (by rw [upd_ne npr]; exact hp)
    · rintro i x σ H' hx ⟨y2, y3, y4, rfl, rfl⟩
      rw [List.getElem?_map] at hx
      obtain ⟨z, hz2, rfl⟩ := Option.map_eq_some_iff.mp hx
      have hm : z ∈ zs := List.mem_of_getElem? hz2
      obtain ⟨R, _⟩ := hz z hm
      have n1 : z.1 ≠ r := fun e => by
        have := R.tup
        rw [e, hr1] at this
        cases this
      have n2 := hzr z hm
      have hb : (zs.map (fun z => z.2.2.2))[i]? = some z.2.2.2 := by rw [List.getElem?_map, hz2]; rfl
      refine ⟨z.1, _, rfl, SqT.of (by rw [upd_ne n1]; exact R.tup), rfl, _, _, rfl, _, _, rfl, _, _, rfl, rfl, ?_⟩
      have bl : upd H1 r (.lst ((((zs.map (fun z => z.2.2.2)).take i).flatten).map V.int)) z.2.1 = some (.lst (z.2.2.2.map V.int)) := by rw [upd_ne n2]; exact R.blk
      refine ⟨.ref r, rfl, .inl ⟨rfl, _, SqL.of upd_same⟩, .ref z.2.1, rfl, r, z.2.1, _, _, rfl, rfl, upd_same, bl, ?_, ?_⟩
      · have h1 := flat_take_len (fam := zs.map (fun z => z.2.2.2)) (i + 1)
        rw [flat_snoc2 hb, hflat, mrg_len, List.length_append] at h1
        rw [List.length_map, List.length_map]
        unfold sizeLine; omega
      · refine ⟨_, _, _, rfl, ?_⟩
        rw [upd_upd, flat_snoc2 hb, List.map_append]
    · rintro σ H' ⟨y2, y3, y4, rfl, rfl⟩
      have e1 : (zs.map fun z => V.ref z.1).length = (zs.map (fun z => z.2.2.2)).length := by rw [List.length_map, List.length_map]
      rw [e1, List.take_length, hflat]
      exact ⟨.ref r, rfl, q _ r (xwr ext0 (WF.of nr)) (tabs_write t1 hr1) (WF.of nr) upd_same⟩
theorem ok_merged {T : List (Addr × Str)} {f fR fM : Addr} {fd fdR fdM : FuncData} {k : Nat} (F : Fun K "merged" "merged" sMerged f fd)
    (GR : FnOk P w K mg base CX0 k fR fdR ["value"] spReqF) (gR : mg "require_family" = some (.ref fR)) (kR : PySem.W.keepIn K (.ref fR) = true) (bR : Binds K fdR ["value"] [])
    (GM : FnOk P w K mg base CX0 k fM fdM ["queues"] (spMerge T)) (gM : mg "merge_queues" = some (.ref fM)) (kM : PySem.W.keepIn K (.ref fM) = true) (bM : Binds K fdM ["queues"] []) :
    FnOk P w K mg base CX0 (k + 1) f fd ["family"] (spMerge T) := by
  refine F.ok scMerged (fun vs H Q E h => ?_) (fun cdv A outer s H vs Q E hr h => ?_)
  · obtain ⟨a, qs, fam, rfl, _⟩ := h
    rfl
  · obtain ⟨a, qs, fam, rfl, FA, ne, nd, hl, hl2, tb, q⟩ := h
    refine ⟨_, pss_cons (ps_expr (pe_call GR hr (by rfl) gR kR bR .nil pass0 (pa_cons (pv 0) pa_nil))) (pss_one (ps_ret (pe_call GM hr (by rfl) gM kM bM .nil pass0 (pa_cons (pv 0) pa_nil)))), ?_⟩
    refine ⟨.ref a, rfl, a, qs, fam, rfl, FA, ne, nd, hl, hl2, fun H1 sm => ?_⟩
    exact ⟨.ref a, rfl, a, qs, fam, rfl, FA.same sm, ne, nd, hl, hl2, tabs_same tb sm, fun H' p ext t2 wf hp => q H' p ((xsm sm).trans ext) t2 (WF.ext (xsm sm) wf) hp⟩
/-- the indices of the queues of the blocks -/
def asg (fam : List (List Int)) : List Int := (srt fam).map fun r => (r.1 : Int)
def spAssign (T : List (Addr × Str)) : Sp := fun vs H Q _ => ∃ (a : Addr) (qs : List Addr) (fam : List (List Int)), vs = [.ref a] ∧ FamAt H a qs fam ∧ fam ≠ [] ∧ fam.flatten.Nodup ∧ fam.flatten.length ≤ 4000 ∧ fam.length ≤ 4000 ∧ Tabs T H ∧
  ∀ (H' : Hp) (p : Addr), ExtN H H' → Tabs T H' → WF H p → H' p = some (.lst ((asg fam).map V.int)) → Q (.ref p) H'
theorem ok_assign {T : List (Addr × Str)} {f fR fP : Addr} {fd fdR fdP : FuncData} {k : Nat} (F : Fun K "assignment_of" "assignment_of" sAssign f fd)
    (GR : FnOk P w K mg base CX0 k fR fdR ["value"] spReqF) (gR : mg "require_family" = some (.ref fR)) (kR : PySem.W.keepIn K (.ref fR) = true) (bR : Binds K fdR ["value"] [])
    (GP : FnOk P w K mg base CX0 k fP fdP ["queues"] (spPlaced T)) (gP : mg "placed_blocks" = some (.ref fP)) (kP : PySem.W.keepIn K (.ref fP) = true) (bP : Binds K fdP ["queues"] []) :
    FnOk P w K mg base CX0 (k + 1) f fd ["family"] (spAssign T) := by
  refine F.ok scAssign (fun vs H Q E h => ?_) (fun cdv A outer s H vs Q E hr h => ?_)
  · obtain ⟨a, qs, fam, rfl, _⟩ := h
    rfl
  · obtain ⟨a, qs, fam, rfl, FA, ne, nd, hl, hl2, tb, q⟩ := h
    refine ⟨_, pss_cons (ps_expr (pe_call GR hr (by rfl) gR kR bR .nil pass0 (pa_cons (pv 0) pa_nil)))
      (pss_one (ps_ret (pe_lc (te := tVar 2) (own := [("record", 1), ("index", 2), ("block", 3)]) (g := gTup K 3 (gCons (gName 1) (gCons (gName 2) (gCons (gName 3) gNil)))) (by rfl) scAssign.nd
        (pi_list (pe_call GP hr (by rfl) gP kP bP .nil pass0 (pa_cons (pv 0) pa_nil))) (blkOk_by (own := [("record", 1), ("index", 2), ("block", 3)]) (N := nAs) (sc := defScope sAssign) (by decide +kernel))
        (fun _ _ _ _ _ => pg_tup (by rfl) (pgs_cons (pg_name (i := 1) scAssign.nd rfl (.inl rfl)) (pgs_cons (pg_name (i := 2) scAssign.nd rfl (.inl rfl)) (pgs_cons (pg_name (i := 3) scAssign.nd rfl (.inl rfl)) pgs_nil))))
        (fun _ _ _ _ _ => pts_nil) (fun _ _ _ _ _ => pv 2)))), ?_⟩
    refine ⟨.ref a, rfl, a, qs, fam, rfl, FA, ne, nd, hl, hl2, fun H0 sm => ?_⟩
    refine ⟨.ref a, rfl, a, qs, fam, rfl, FA.same sm, nd, hl, hl2, tabs_same tb sm, fun H1 p zs ext t1 wf hp hz hzs => ?_⟩
    have hidx : zs.map (fun z => ((z.2.2.1 : Nat) : Int)) = asg fam := by
      unfold asg
      rw [← hzs, List.map_map]
      rfl
    have hzl : zs.length ≤ 4000 := by
      have h1 := congrArg List.length hzs
      rw [List.length_map] at h1
      have h2 := (by_perm (fun r : Nat × List Int => hd r.2) (plc 0 fam)).length_eq
      have h3 := plc_len fam
      have h4 : (srt fam).length = (plc 0 fam).length := h2
      omega
    have ext0 : ExtN H H1 := (xsm sm).trans ext
    refine ⟨p, rfl, ⟨_, SqL.of hp⟩, fun D nD => ?_⟩
    have npD : p ≠ D := ne_of_none hp nD
    refine lc_list (K := K) (a := p) (xs := zs.map fun z => V.ref z.1) (fun i H' => H' = upd H1 D (.lst (((zs.map (fun z => ((z.2.2.1 : Nat) : Int))).take i).map V.int))) rfl ?_ ?_ ?_
    · rintro i H' _ rfl
      exact SqL.of (by rw [upd_ne npD]; exact hp)
    · rintro i x H' hx rfl
      rw [List.getElem?_map] at hx
      obtain ⟨z, hz2, rfl⟩ := Option.map_eq_some_iff.mp hx
      obtain ⟨R, _⟩ := hz z (List.mem_of_getElem? hz2)
      have hi := (List.getElem?_eq_some_iff.mp hz2).1
      have n1 : z.1 ≠ D := ne_of_none R.tup nD
      have hb : (zs.map (fun z => ((z.2.2.1 : Nat) : Int)))[i]? = some (z.2.2.1 : Int) := by rw [List.getElem?_map, hz2]; rfl
      refine ⟨z.1, _, rfl, SqT.of (by rw [upd_ne n1]; exact R.tup), rfl, _, _, rfl, _, _, rfl, _, _, rfl, rfl, ?_⟩
      refine ⟨rfl, iteT (B := upd H1 D (.lst (((zs.map (fun z => ((z.2.2.1 : Nat) : Int))).take i).map V.int)) = upd H1 D (.lst (((zs.map (fun z => ((z.2.2.1 : Nat) : Int))).take (i + 1)).map V.int))) ?_⟩
      refine ⟨.int (z.2.2.1 : Int), rfl, _, upd_same, ?_, ?_⟩
      · rw [List.length_map, List.length_take, List.length_map]; unfold sizeLine; omega
      · rw [upd_upd, List.take_add_one, hb, List.map_append]; rfl
    · rintro H' rfl
      have e1 : (zs.map fun z => V.ref z.1).length = (zs.map (fun z => ((z.2.2.1 : Nat) : Int))).length := by rw [List.length_map, List.length_map]
      rw [e1, List.take_length, hidx]
      exact q _ D (xnw ext0 nD) (tabs_new t1 nD) (WF.ext ext0 (WF.of nD)) upd_same
end
end My
namespace My
open PySem PySem.Spec PyProof.Rows L2
theorem scReq : FnScope ["value"] ["value"] (defScope sReq) := ⟨rfl, rfl, rfl, by decide +kernel, rfl, by decide +kernel, by decide +kernel⟩
section
variable {P : Program} {w : World} {K : PySem.W.Frag} {mg : Str → Option Value} {base : Heap}
def spReq : Sp := fun vs H Q _ => ∃ (a : Addr) (ns : List Int), vs = [.ref a] ∧ H a = some (.lst (ns.map V.int)) ∧ ns.Nodup ∧ ns.length ≤ 4000 ∧ ∀ H', Same H H' → Q .non H'
theorem ok_req {f fN : Addr} {fd fdN : FuncData} {k : Nat} (F : Fun K "require_numbers" "require_numbers" sReq f fd)
    (GN : FnOk P w K mg base CX0 k fN fdN ["value"] spNums) (gN : mg "is_numbers" = some (.ref fN)) (kN : PySem.W.keepIn K (.ref fN) = true) (bN : Binds K fdN ["value"] []) :
    FnOk P w K mg base CX0 (k + 1) f fd ["value"] spReq := by
  refine F.ok scReq (fun vs H Q E h => ?_) (fun cdv A outer s H vs Q E hr h => ?_)
  · obtain ⟨a, ns, rfl, _⟩ := h
    rfl
  · obtain ⟨a, ns, rfl, hS, nd, hl, q⟩ := h
    refine ⟨_, pss_one (ps_if (pt_not (pt_val (pe_call GN hr (by rfl) gN kN bN .nil pass0 (pa_cons (pv 0) pa_nil)))) (pss_one ps_never) pss_nil), ?_⟩
    exact ⟨.ref a, rfl, a, ns, rfl, hS, nd, hl, fun H' sm => ⟨true, rfl, iteF (q H' sm)⟩⟩
end
end My
namespace My
open PySem PySem.Spec PyProof.Rows L2
theorem scBlocks : FnScope ["numbers"] ["numbers"] (defScope sBlocks) := ⟨rfl, rfl, rfl, by decide +kernel, rfl, by decide +kernel, by decide +kernel⟩
section
variable {P : Program} {w : World} {K : PySem.W.Frag} {mg : Str → Option Value} {base : Heap}
theorem ok_blocks {f fR fS : Addr} {fd fdR fdS : FuncData} {k : Nat} (F : Fun K "blocks_of" "blocks_of" sBlocks f fd)
    (GR : FnOk P w K mg base CX0 k fR fdR ["value"] spReq) (gR : mg "require_numbers" = some (.ref fR)) (kR : PySem.W.keepIn K (.ref fR) = true) (bR : Binds K fdR ["value"] [])
    (GS : FnOk P w K mg base CX0 k fS fdS ["numbers"] spSplit) (gS : mg "split_blocks" = some (.ref fS)) (kS : PySem.W.keepIn K (.ref fS) = true) (bS : Binds K fdS ["numbers"] []) :
    FnOk P w K mg base CX0 (k + 1) f fd ["numbers"] spBlocks := by
  refine F.ok scBlocks (fun vs H Q E h => ?_) (fun cdv A outer s H vs Q E hr h => ?_)
  · obtain ⟨a, ns, rfl, _⟩ := h
    rfl
  · obtain ⟨a, ns, rfl, hS, nd, hl, q⟩ := h
    refine ⟨_, pss_cons (ps_expr (pe_call GR hr (by rfl) gR kR bR .nil pass0 (pa_cons (pv 0) pa_nil))) (pss_one (ps_ret (pe_call GS hr (by rfl) gS kS bS .nil pass0 (pa_cons (pv 0) pa_nil)))), ?_⟩
    refine ⟨.ref a, rfl, a, ns, rfl, hS, nd, hl, fun H1 sm => ?_⟩
    refine ⟨.ref a, rfl, a, ns, rfl, sm _ _ hS, hl, fun H' p qs N => ?_⟩
    exact q H' p qs ⟨sm.trans N.same, fun z hz => sm.free (N.fresh z hz), sm.free N.freshp, N.top, N.off, N.rows⟩
end
end My
namespace My
open PySem PySem.Spec PyProof.Rows L2 LamX
abbrev nLF : List Str := ["drum", "most", "numbers", "found", "stay", "at", "number", "turn"]
theorem scLFam : FnScope nLF ["drum", "most"] (defScope sLFam) := ⟨rfl, rfl, rfl, by decide +kernel, rfl, by decide +kernel, by decide +kernel⟩
/-- a new family of new queues, the drum turned -/
structure FS (H H' : Hp) (D : Addr) (n : Nat) (p : Addr) (qs : List Addr) (fam : List (List Int)) : Prop where
  ds : DS H H' D n
  fp : H p = none
  top : H' p = some (.lst (qs.map V.ref))
  off : p ∉ qs
  fresh : ∀ q ∈ qs, H q = none
  rows : Rws H' qs (vv fam)
theorem FS.spin {H H' : Hp} {D : Addr} {n m : Nat} {p : Addr} {qs : List Addr} {fam : List (List Int)} (F : FS H H' D n p qs fam) {a b c : Int} (d : Drm a b c m) : FS H (upd H' D (drl a b c)) D m p qs fam :=
  ⟨F.ds.spin d, F.fp, by rw [upd_ne (F.ds.ne F.fp)]; exact F.top, F.off, F.fresh, F.rows.off fun z => F.ds.at0 (F.fresh D z)⟩
theorem set_flat : ∀ {fam : List (List Int)} {j : Nat} {f : List Int} (n : Int), fam[j]? = some f → ((fam.set j (f ++ [n])).flatten).Perm (fam.flatten ++ [n])
  | [], j, f, n, h => by simp at h
  | g :: fam, 0, f, n, h => by
    have e : g = f := Option.some.inj h
    subst e
    show ((g ++ [n]) ++ fam.flatten).Perm ((g ++ fam.flatten) ++ [n])
    rw [List.append_assoc, List.append_assoc]
    exact List.Perm.append_left _ List.perm_append_comm
  | g :: fam, j + 1, f, n, h => by
    have ih := set_flat (fam := fam) (j := j) (f := f) n h
    show (g ++ (fam.set j (f ++ [n])).flatten).Perm ((g ++ fam.flatten) ++ [n])
    rw [List.append_assoc]
    exact List.Perm.append_left _ ih
theorem rep_flat (m : Nat) : (List.replicate m ([] : List Int)).flatten = [] := by
  induction m with
  | zero => rfl
  | succ m ih => rw [List.replicate_succ, List.flatten_cons, ih]; rfl
section
variable {P : Program} {w : World} {K : PySem.W.Frag} {mg : Str → Option Value} {base : Heap}
def spLFam : Sp := fun vs H Q _ => ∃ (D : Addr) (most : Nat) (a b c : Int) (n : Nat), vs = [.ref D, .int most] ∧ most ≤ 150 ∧ H D = some (drl a b c) ∧ Drm a b c n ∧ n ≤ 800000 ∧
  ∀ (H' : Hp) (p : Addr) (qs : List Addr) (fam : List (List Int)), FS H H' D (n + 7 + 4 * most) p qs fam → fam ≠ [] → fam.length ≤ 8 → fam.flatten.Nodup → fam.flatten.length ≤ most → Sm fam.flatten → Q (.ref p) H'
theorem ok_lfam {f fS fN : Addr} {fd fdS fdN : FuncData} {k : Nat} (F : Fun K "_law_family" "_law_family" sLFam f fd) (T : Txt mg)
    (GS : FnOk P w K mg base CX0 k fS fdS ["drum", "size"] spSpin) (gS : mg "_law_spin" = some (.ref fS)) (kS : PySem.W.keepIn K (.ref fS) = true) (bS : Binds K fdS ["drum", "size"] [])
    (GN : FnOk P w K mg base CX0 k fN fdN ["drum", "many"] spNumbers) (gN : mg "_law_numbers" = some (.ref fN)) (kN : PySem.W.keepIn K (.ref fN) = true) (bN : Binds K fdN ["drum", "many"] []) :
    FnOk P w K mg base CX0 (k + 1) f fd ["drum", "most"] spLFam := by
  refine F.ok scLFam (fun vs H Q E h => ?_) (fun cdv A outer s H vs Q E hr h => ?_)
  · obtain ⟨D, most, a, b, c, n, rfl, _⟩ := h
    rfl
  · obtain ⟨D, most, a, b, c, n, rfl, hm, hD, hd, hn, q⟩ := h
    refine ⟨_, pss_cons (ps_set (i := 2) scLFam.nd rfl (.inl rfl) (pe_call GN hr (by rfl) gN kN bN .nil pass0 (pa_cons (pv 0) (pa_cons (pe_call GS hr (by rfl) gS kS bS .nil pass0 (pa_cons (pv 0) (pa_cons (pe_op op_add (pv 1) pe_int) pa_nil))) pa_nil))))
      (pss_cons (ps_setLc (i := 3) (own := [("turn", 7)]) (g := gName 7) (by rfl) scLFam.nd rfl rfl (sw_true rfl rfl rfl (by decide +kernel))
          (pi_range1 (by rfl) T.range (pa_cons (pe_op op_add pe_int (pe_call GS hr (by rfl) gS kS bS .nil pass0 (pa_cons (pv 0) (pa_cons
            (pe_ix ix_list (pe_lst (pa_cons pe_int (pa_cons pe_int (pa_cons pe_int (pa_cons pe_int pa_nil))))) (pe_call GS hr (by rfl) gS kS bS .nil pass0 (pa_cons (pv 0) (pa_cons pe_int pa_nil))) (fun _ _ => rfl)) pa_nil)))) pa_nil))
          (blkOk_by (own := [("turn", 7)]) (N := nLF) (sc := defScope sLFam) (by decide +kernel)) (fun _ _ _ _ _ => pg_name (i := 7) scLFam.nd rfl (Or.inl rfl)) (fun _ _ _ _ _ => pts_nil) (fun _ _ _ _ _ => pe_lst pa_nil))
      (pss_cons (ps_par (i := 4) (j := 5) (by rfl) scLFam.nd rfl rfl (by decide) rfl rfl (pa_cons (pe_op op_add pe_int (pe_call GS hr (by rfl) gS kS bS .nil pass0 (pa_cons (pv 0) (pa_cons pe_int pa_nil)))) (pa_cons pe_int pa_nil)) (by rfl))
      (pss_cons (ps_for PassesOwn.never rfl (pi_list (pv 2)) (pg_name (i := 6) scLFam.nd rfl (.inl rfl))
          (pss_cons (ps_if (pt_cmpR op_eq (pe_call GS hr (by rfl) gS kS bS .nil pass0 (pa_cons (pv 0) (pa_cons (pv 4) pa_nil))) pe_int (nomark _))
            (pss_one (ps_set (i := 5) scLFam.nd rfl (.inl rfl) (pe_call GS hr (by rfl) gS kS bS .nil pass0 (pa_cons (pv 0) (pa_cons (pe_callB call_len_seq (by rfl) T.len PySem.boot_len (pa_cons (pv 3) pa_nil)) pa_nil))))) pss_nil)
          (pss_one (ps_expr (pe_bm PySem.F.plainAttrs_list PySem.F.slot_list_append PySem.F.type_list_append mt_append (pe_ix ix_list (pv 3) (pv 5) (fun _ _ => rfl)) (pa_cons (pv 6) pa_nil))))))
      (pss_one (ps_ret (pv 3)))))), ?_⟩
    have S0 : DS H H D n := ⟨But.refl D H, (by rw [hD]; exact fun z => nomatch z), a, b, c, hD, hd⟩
    -- numbers
    refine ⟨.ref D, rfl, .ref D, rfl, .int most, rfl, _, _, rfl, rfl, D, (most : Int) + 1, a, b, c, n, rfl, hD, hd, by omega, by omega, by omega, fun v a1 b1 c1 h0 h1 d1 => ?_⟩
    obtain ⟨m, rfl⟩ := Int.eq_ofNat_of_zero_le h0
    have hmm : m ≤ most := by omega
    refine ⟨D, m, a1, b1, c1, n + 1, rfl, by omega, upd_same, d1, by omega, fun H1 pn ns a2 b2 c2 nd hlen sm npn bt hpn D2 d2 => ?_⟩
    have bt0 : But D H H1 := (S0.spin d1).but.trans bt
    have S1 : DS H1 H1 D (n + 1 + 3 + 2 * m) := ⟨But.refl D H1, (by rw [D2]; exact fun z => nomatch z), a2, b2, c2, D2, d2⟩
    have pnD : pn ≠ D := fun z => by rw [z] at npn; rw [upd_same] at npn; cases npn
    -- the queues
    refine ⟨.ref D, rfl, (show 4 ≤ sizeLine by decide), fun l nl => ?_⟩
    have S2 := S1.new (o := .lst [.int 1, .int 2, .int 4, .int 8]) nl
    obtain ⟨a3, b3, c3, D3, d3⟩ := S2.dr
    refine ⟨.ref D, rfl, D, 4, a3, b3, c3, n + 1 + 3 + 2 * m, rfl, D3, d3, by omega, by decide, by decide, fun v1 a4 b4 c4 g0 g1 d4 => ?_⟩
    have S3 := S2.spin d4
    obtain ⟨g, hg, hg1, hg2⟩ := pick4 1 2 4 8 g0 g1 (fun z => 1 ≤ z ∧ z ≤ 8) (by decide) (by decide) (by decide) (by decide)
    have lD : l ≠ D := S1.ne nl
    refine ⟨l, _, _, _, rfl, rfl, SqL.of (by rw [upd_ne lD, upd_same]), hg, ?_⟩
    obtain ⟨a5, b5, c5, D5, d5⟩ := S3.dr
    refine ⟨D, g, a5, b5, c5, n + 1 + 3 + 2 * m + 1, rfl, D5, d5, by omega, hg1, by omega, fun v2 a6 b6 c6 g3 g4 d6 => ?_⟩
    have S4 := S3.spin d6
    obtain ⟨r, rfl⟩ := Int.eq_ofNat_of_zero_le g3
    have hr8 : r + 1 ≤ 8 := by omega
    generalize upd (upd (upd H1 l (.lst [.int 1, .int 2, .int 4, .int 8])) D (drl a4 b4 c4)) D (drl a6 b6 c6) = H4 at S4 ⊢
    have er : (1 : Int) + (r : Int) = ((r + 1 : Nat) : Int) := by omega
    refine ⟨_, _, rfl, rfl, (1 : Int) + r, rfl, by omega, by omega, fun p np => ?_⟩
    rw [er, Int.toNat_natCast]
    have fp : H1 p = none := S4.fr np
    refine lc_range (lo := 0) (n := r + 1) (fun i H' => ∃ qs : List Addr, qs.length = i ∧ FS H1 H' D (n + 1 + 3 + 2 * m + 2) p qs (List.replicate i [])) ?_ ?_ ?_
    · exact ⟨[], rfl, ⟨S4.new np, fp, upd_same, by simp, (fun z hz => nomatch hz), Rws.nil⟩⟩
    · rintro i H' hi ⟨qs, hql, F5⟩
      refine ⟨rfl, iteT (B := ∃ qs : List Addr, qs.length = i + 1 ∧ FS H1 H' D (n + 1 + 3 + 2 * m + 2) p qs (List.replicate (i + 1) [])) ?_⟩
      refine ⟨Nat.zero_le _, fun qn nq => ?_⟩
      have npq : p ≠ qn := ne_of_none F5.top nq
      refine ⟨_, by rw [upd_ne npq]; exact F5.top, ?_, ?_⟩
      · rw [List.length_map]; unfold sizeLine; omega
      have fq : H1 qn = none := F5.ds.fr nq
      have nqs : qn ∉ qs := fun z => F5.rows.there z nq
      refine ⟨qs ++ [qn], by rw [List.length_append, hql]; rfl, ⟨(F5.ds.new nq).write fp, fp, ?_, ?_, ?_, ?_⟩⟩
      · rw [upd_same, List.map_append]; rfl
      · intro z
        rcases List.mem_append.mp z with y | y
        · exact F5.off y
        · exact npq (by simpa using y)
      · intro z hz
        rcases List.mem_append.mp hz with y | y
        · exact F5.fresh z y
        · have e2 : z = qn := by simpa using y
          rw [e2]; exact fq
      · have R := (F5.rows.push (b := []) nq).off (o := .lst (qs.map V.ref ++ [.ref qn])) (p := p) (by
          intro z
          rcases List.mem_append.mp z with y | y
          · exact F5.off y
          · exact npq (by simpa using y))
        have ev : vv (List.replicate (i + 1) []) = vv (List.replicate i []) ++ [[]] := by rw [List.replicate_succ']; exact List.map_append ..
        rw [ev]
        exact R
    rintro H5 ⟨qs, hql, F5⟩
    -- stay, at
    obtain ⟨a7, b7, c7, D7, d7⟩ := F5.ds.dr
    refine ⟨.ref D, rfl, D, 5, a7, b7, c7, n + 1 + 3 + 2 * m + 2, rfl, D7, d7, by omega, by decide, by decide, fun v3 a8 b8 c8 g5 g6 d8 => ?_⟩
    have F6 := F5.spin d8
    refine ⟨_, _, rfl, rfl, _, _, rfl, ?_⟩
    generalize upd H5 D (drl a8 b8 c8) = H6 at F6 ⊢
    have keep : ∀ {H' : Hp} {k : Nat}, DS H1 H' D k → H' pn = some (.lst (ns.map V.int)) := fun S => S.but pn _ pnD hpn
    refine ⟨.ref pn, rfl, pn, rfl, ⟨_, SqL.of (keep F6.ds)⟩, for_list (K := K) (a := pn) (xs := ns.map V.int)
      (fun i σ H' => ∃ (y6 : Option V) (at_ : Nat) (fam : List (List Int)), σ = [some (.ref D), some (.int most), some (.ref pn), some (.ref p), some (.int (1 + v3)), some (.int (at_ : Int)), y6, none] ∧ at_ < qs.length ∧ fam.length = r + 1 ∧
        FS H1 H' D (n + 1 + 3 + 2 * m + 3 + 2 * i) p qs fam ∧ (fam.flatten).Perm (ns.take i))
      ⟨none, 0, List.replicate (r + 1) [], rfl, by omega, List.length_replicate .., F6, by rw [rep_flat]; exact List.Perm.refl _⟩ ?_ ?_ ?_⟩
    · rintro i σ H' _ ⟨_, _, _, _, _, _, F7, _⟩
      exact SqL.of (keep F7.ds)
    · rintro i x σ H' hx ⟨y6, at_, fam, rfl, hat, hfl, F7, pm⟩
      rw [List.getElem?_map] at hx
      obtain ⟨nn, hnn, rfl⟩ := Option.map_eq_some_iff.mp hx
      have hi : i < ns.length := (List.getElem?_eq_some_iff.mp hnn).1
      have fl := pm.length_eq
      rw [List.length_take] at fl
      -- the number goes behind a queue, whichever it is
      have fin : ∀ (H2 : Hp) (at2 : Nat) (k2 : Nat), at2 < qs.length → k2 ≤ n + 1 + 3 + 2 * m + 3 + 2 * (i + 1) → FS H1 H2 D k2 p qs fam → ∃ (q : Addr) (f2 : List Int), qs[at2]? = some q ∧ fam[at2]? = some f2 ∧ H2 q = some (.lst (f2.map V.int)) ∧ f2.length ≤ 4000 ∧
          ∃ (y6 : Option V) (at_ : Nat) (fam : List (List Int)), [some (.ref D), some (.int most), some (.ref pn), some (.ref p), some (.int (1 + v3)), some (.int (at2 : Int)), some (.int nn), none] = [some (V.ref D), some (.int most), some (.ref pn), some (.ref p), some (.int (1 + v3)), some (.int (at_ : Int)), y6, none] ∧ at_ < qs.length ∧ fam.length = r + 1 ∧
            FS H1 (upd H2 q (.lst (f2.map V.int ++ [.int nn]))) D (n + 1 + 3 + 2 * m + 3 + 2 * (i + 1)) p qs fam ∧ (fam.flatten).Perm (ns.take (i + 1)) := by
        intro H2 at2 k2 ha hk F8
        have hq : qs[at2]? = some qs[at2] := List.getElem?_eq_getElem ha
        have ha2 : at2 < fam.length := by rw [hfl]; omega
        have hf : fam[at2]? = some fam[at2] := List.getElem?_eq_getElem ha2
        have hmem := List.mem_of_getElem? hq
        have hrow := F8.rows.get at2 _ _ hq (show (vv fam)[at2]? = some (fam[at2].map V.int) by rw [List.getElem?_map, hf]; rfl)
        refine ⟨qs[at2], fam[at2], hq, hf, hrow, ?_, some (.int nn), at2, fam.set at2 (fam[at2] ++ [nn]), rfl, ha, by rw [List.length_set]; exact hfl, ?_, ?_⟩
        · have := flat_mem_len (List.getElem_mem ha2)
          omega
        · have fq := F8.fresh _ hmem
          have npq : p ≠ qs[at2] := fun z => F8.off (z ▸ hmem)
          obtain ⟨w1, w2, w3⟩ := F8.ds
          obtain ⟨a9, b9, c9, e9, d9⟩ := w3
          have S9 : DS H1 H2 D (n + 1 + 3 + 2 * m + 3 + 2 * (i + 1)) := ⟨w1, w2, a9, b9, c9, e9, d9.up hk⟩
          refine ⟨S9.write fq, F8.fp, by rw [upd_ne npq]; exact F8.top, F8.off, F8.fresh, ?_⟩
          have R := F8.rows.put (b := fam[at2].map V.int ++ [.int nn]) hq
          have ev : vv (fam.set at2 (fam[at2] ++ [nn])) = (vv fam).set at2 (fam[at2].map V.int ++ [.int nn]) := by
            show (fam.set at2 (fam[at2] ++ [nn])).map _ = _
            rw [List.map_set, List.map_append]
            rfl
          rw [ev]
          exact R
        · refine (set_flat nn hf).trans ?_
          rw [List.take_add_one, hnn]
          exact List.Perm.append_right _ pm
      obtain ⟨a9, b9, c9, D9, d9⟩ := F7.ds.dr
      refine ⟨.ref D, rfl, .int (1 + v3), rfl, D, 1 + v3, a9, b9, c9, n + 1 + 3 + 2 * m + 3 + 2 * i, rfl, D9, d9, by omega, by omega, by omega, fun v4 a10 b10 c10 _ _ d10 => ?_⟩
      have F8 := F7.spin d10
      generalize upd H' D (drl a10 b10 c10) = H8 at F8 ⊢
      refine ⟨rfl, _, rfl, ite2 (fun _ => ?_) (fun _ => ?_)⟩
      · obtain ⟨a11, b11, c11, D11, d11⟩ := F8.ds.dr
        refine ⟨.ref D, rfl, .ref p, rfl, p, _, rfl, .inl (SqL.of F8.top), D, _, a11, b11, c11, n + 1 + 3 + 2 * m + 3 + 2 * i + 1, rfl, D11, d11, by omega, ?_, ?_, fun v5 a12 b12 c12 h5 h6 d12 => ?_⟩
        · rw [List.length_map]; omega
        · rw [List.length_map]; omega
        rw [List.length_map] at h6
        obtain ⟨at2, rfl⟩ := Int.eq_ofNat_of_zero_le h5
        have F9 := F8.spin d12
        generalize upd H8 D (drl a12 b12 c12) = H9 at F9 ⊢
        obtain ⟨q9, f9, e1, e2, e3, e4, e5⟩ := fin H9 at2 _ (by omega) (by omega) F9
        refine ⟨.ref p, rfl, .int (at2 : Int), rfl, p, _, _, .ref q9, rfl, rfl, SqL.of F9.top, atI_nat (j := at2) (by rw [List.getElem?_map, e1]; rfl), .inl ⟨rfl, _, SqL.of e3⟩, .int nn, rfl, q9, _, _, rfl, rfl, e3, ?_, e5⟩
        rw [List.length_map]; unfold sizeLine; omega
      · obtain ⟨q9, f9, e1, e2, e3, e4, e5⟩ := fin H8 at_ _ hat (by omega) F8
        refine ⟨.ref p, rfl, .int (at_ : Int), rfl, p, _, _, .ref q9, rfl, rfl, SqL.of F8.top, atI_nat (j := at_) (by rw [List.getElem?_map, e1]; rfl), .inl ⟨rfl, _, SqL.of e3⟩, .int nn, rfl, q9, _, _, rfl, rfl, e3, ?_, e5⟩
        rw [List.length_map]; unfold sizeLine; omega
    · rintro σ H' ⟨y6, at_, fam, rfl, hat, hfl, F7, pm⟩
      rw [List.length_map, List.take_length] at pm
      rw [List.length_map] at F7
      refine ⟨.ref p, rfl, q H' p qs fam ⟨⟨bt0.trans F7.ds.but, S0.at0, ?_⟩, ?_, F7.top, F7.off, ?_, F7.rows⟩ ?_ (by omega) (pm.nodup_iff.mpr nd) ?_ (sm.perm pm)⟩
      · obtain ⟨a9, b9, c9, e9, d9⟩ := F7.ds.dr
        exact ⟨a9, b9, c9, e9, d9.up (by omega)⟩
      · exact bt0.free (F7.ds.ne fp) fp
      · intro z hz
        exact bt0.free (F7.ds.ne (F7.fresh z hz)) (F7.fresh z hz)
      · intro z
        rw [z] at hfl
        cases hfl
      · have := pm.length_eq
        omega
end
end My
namespace My
open PySem PySem.Spec PyProof.Rows L2 LamX
theorem eqvI : ∀ xs ys : List Int, PyData.eqv (dI xs) (dI ys) = decide (xs = ys)
  | [], [] => by simp [dI, PyData.eqv, PyData.eqvAll]
  | [], y :: ys => by simp [dI, PyData.eqv, PyData.eqvAll]
  | x :: xs, [] => by simp [dI, PyData.eqv, PyData.eqvAll]
  | x :: xs, y :: ys => by
    have ih := eqvI xs ys
    unfold dI at ih ⊢
    simp only [PyData.eqv] at ih
    simp only [List.map_cons, PyData.eqv, PyData.eqvAll, ih]
    by_cases h1 : x = y
    · by_cases h2 : xs = ys
      · simp [h1, h2]
      · simp [h1, h2]
    · simp [h1]
theorem by_eq {α : Type} {g : α → Int} {l m : List α} (p : l.Perm m) (nd : (l.map g).Nodup) : bySm g l = bySm g m :=
  by_one ((by_perm g l).trans p) ((p.map g).nodup_iff.mp nd) (by_sorted g l)
theorem mrg_eq {xs ys : List (List Int)} (nd : xs.flatten.Nodup) (p : (cuts xs).Perm (cuts ys)) : mrg xs = mrg ys := by
  unfold mrg
  rw [by_eq p (cuts_nd nd)]
theorem mrg_rows {xs ys : List (List Int)} (nd : xs.flatten.Nodup) (p : xs.Perm ys) : mrg xs = mrg ys := mrg_eq nd (p.flatMap_right _)
theorem mrg_nd {xs : List (List Int)} (nd : xs.flatten.Nodup) : (mrg xs).Nodup := (mrg_perm xs).nodup_iff.mpr nd
/-! the queues in another order -/
abbrev row (fam : List (List Int)) (i : Nat) : List Int := fam.getD i []
theorem rows_all (fam : List (List Int)) : (List.range fam.length).map (row fam) = fam := by
  refine List.ext_getElem (by simp) fun i h1 h2 => ?_
  have h3 : i < fam.length := h2
  simp [row, List.getD_eq_getElem?_getD, List.getElem?_eq_getElem h3]
theorem plc_idx (g : Nat → List Int) (f : Nat → Nat) : ∀ (idx : List Nat) (k : Nat), (∀ j i, idx[j]? = some i → f (k + j) = i) →
    (plc k (idx.map g)).map (fun r => (f r.1, r.2)) = idx.flatMap fun i => (cut (g i)).map fun b => (i, b)
  | [], _, _ => rfl
  | i :: idx, k, h => by
    have e0 : f k = i := h 0 i rfl
    have ih := plc_idx g f idx (k + 1) fun j i' e => by
      have := h (j + 1) i' e
      rw [show k + 1 + j = k + (j + 1) by omega]
      exact this
    show ((cut (g i)).map (fun b => (k, b)) ++ plc (k + 1) (idx.map g)).map _ = _
    rw [List.map_append, ih, List.map_map, List.flatMap_cons]
    congr 1
    refine List.map_congr_left fun b _ => ?_
    show (f k, b) = (i, b)
    rw [e0]
theorem other_srt {fam : List (List Int)} {idx : List Nat} (nd : fam.flatten.Nodup) (p : idx.Perm (List.range fam.length)) :
    (srt (idx.map (row fam))).map (fun r => (idx.getD r.1 0, r.2)) = srt fam := by
  have h1 := plc_idx (row fam) (fun j => idx.getD j 0) idx 0 fun j i e => by
    rw [Nat.zero_add]
    simp [List.getD_eq_getElem?_getD, e]
  have h2 := plc_idx (row fam) id (List.range fam.length) 0 fun j i e => by
    rw [Nat.zero_add]
    obtain ⟨h, e2⟩ := List.getElem?_eq_some_iff.mp e
    rw [List.getElem_range] at e2
    exact e2
  rw [rows_all] at h2
  have h3 : (plc 0 fam).map (fun r => (id r.1, r.2)) = plc 0 fam := List.map_id _
  rw [h3] at h2
  have pp : ((plc 0 (idx.map (row fam))).map fun r => (idx.getD r.1 0, r.2)).Perm (plc 0 fam) := by
    rw [h1, h2]
    exact p.flatMap_right _
  have nd2 : ((plc 0 fam).map fun r : Nat × List Int => hd r.2).Nodup := by
    have e : (plc 0 fam).map (fun r : Nat × List Int => hd r.2) = (cuts fam).map hd := by rw [← plc_snd fam 0, List.map_map]; rfl
    rw [e]
    exact cuts_nd nd
  unfold srt
  refine by_one ?_ nd2 ?_
  · exact ((by_perm _ _).map _).trans pp
  · exact List.pairwise_map.mpr (by_sorted (fun r : Nat × List Int => hd r.2) _)
theorem other_asg {fam : List (List Int)} {idx : List Nat} (nd : fam.flatten.Nodup) (p : idx.Perm (List.range fam.length)) :
    (srt (idx.map (row fam))).map (fun r => ((idx.getD r.1 0 : Nat) : Int)) = asg fam := by
  have h := congrArg (List.map fun r : Nat × List Int => (r.1 : Int)) (other_srt nd p)
  rw [List.map_map] at h
  exact h
theorem asg_lt {fam : List (List Int)} {j : Nat} {r : Nat × List Int} (h : (srt fam)[j]? = some r) : r.1 < fam.length := by
  have hm := (by_perm (fun r : Nat × List Int => hd r.2) (plc 0 fam)).mem_iff.mp (List.mem_of_getElem? h)
  obtain ⟨q, h1, _, _⟩ := plc_mem fam 0 hm
  exact (List.getElem?_eq_some_iff.mp h1).1
theorem srtLen (fam : List (List Int)) : (srt fam).length ≤ fam.flatten.length := by
  have h2 := (by_perm (fun r : Nat × List Int => hd r.2) (plc 0 fam)).length_eq
  have h3 := plc_len fam
  have h4 : (srt fam).length = (plc 0 fam).length := h2
  omega
theorem asg_len (fam : List (List Int)) : (asg fam).length = (srt fam).length := List.length_map ..
theorem cut_mrg_len {fam : List (List Int)} (nd : fam.flatten.Nodup) : (cut (mrg fam)).length = (srt fam).length := by
  rw [cut_mrg nd, ← srt_snd nd, List.length_map]
/-! the family of single blocks -/
theorem cut_self {bs : List (List Int)} (h : ∀ b ∈ bs, b ≠ [] ∧ ∀ x ∈ b, x ≤ hd b) : cuts bs = bs := by
  induction bs with
  | nil => rfl
  | cons b bs ih =>
    have h1 := h b (List.mem_cons_self ..)
    have h2 := ih fun c hc => h c (List.mem_cons_of_mem _ hc)
    show cut b ++ cuts bs = b :: bs
    rw [h2]
    cases b with
    | nil => exact absurd rfl h1.1
    | cons x r =>
      have e : cut (x :: r) = [x :: r] := cut_blk fun z hz => h1.2 z (List.mem_cons_of_mem _ hz)
      rw [e]
      rfl
theorem plc_self : ∀ {bs : List (List Int)} (k : Nat), (∀ b ∈ bs, b ≠ [] ∧ ∀ x ∈ b, x ≤ hd b) → (plc k bs).map (fun r => (r.1 : Int)) = (List.range bs.length).map fun i : Nat => ((k + i : Nat) : Int)
  | [], _, _ => rfl
  | b :: bs, k, h => by
    have h1 := h b (List.mem_cons_self ..)
    have ih := plc_self (k + 1) fun c hc => h c (List.mem_cons_of_mem _ hc)
    have hb : cut b = [b] := by
      cases b with
      | nil => exact absurd rfl h1.1
      | cons x r => exact cut_blk fun z hz => h1.2 z (List.mem_cons_of_mem _ hz)
    show ((cut b).map (fun b => (k, b)) ++ plc (k + 1) bs).map _ = _
    rw [List.map_append, ih, hb, List.length_cons, List.range_succ_eq_map]
    simp only [List.map_cons, List.map_nil, List.map_map, List.cons_append, List.nil_append, Nat.add_zero]
    congr 1
    refine List.map_congr_left fun i _ => ?_
    show ((k + 1 + i : Nat) : Int) = ((k + (i + 1) : Nat) : Int)
    congr 1
    omega
theorem blk_ok (ns : List Int) : ∀ b ∈ cut ns, b ≠ [] ∧ ∀ x ∈ b, x ≤ hd b := fun b hb => cut_mem hb
theorem single_mrg {fam : List (List Int)} (nd : fam.flatten.Nodup) : mrg (cut (mrg fam)) = mrg fam := by
  have nd2 : (cut (mrg fam)).flatten.Nodup := by rw [(good_cut _).flat]; exact mrg_nd nd
  refine mrg_eq nd2 ?_
  rw [cut_self (blk_ok _), cut_mrg nd]
  exact by_perm _ _
theorem single_asg (ns : List Int) (nd : ns.Nodup) : asg (cut ns) = (List.range (cut ns).length).map fun i : Nat => (i : Int) := by
  have nd2 : (cut ns).flatten.Nodup := by rw [(good_cut _).flat]; exact nd
  have e : srt (cut ns) = plc 0 (cut ns) := by
    have nd3 : ((plc 0 (cut ns)).map fun r : Nat × List Int => hd r.2).Nodup := by
      have e : (plc 0 (cut ns)).map (fun r : Nat × List Int => hd r.2) = (cuts (cut ns)).map hd := by rw [← plc_snd (cut ns) 0, List.map_map]; rfl
      rw [e]
      exact cuts_nd nd2
    refine (by_one (List.Perm.refl _) nd3 ?_).symm
    have h := cut_asc ns
    have e2 : (plc 0 (cut ns)).map (·.2) = cut ns := by rw [plc_snd, cut_self (blk_ok _)]
    rw [← e2] at h
    exact (List.pairwise_map.mp h).imp fun z => Int.le_of_lt z
  unfold asg
  rw [e, plc_self 0 (blk_ok _)]
  refine List.map_congr_left fun i _ => ?_
  rw [Nat.zero_add]
/-! a queue taken out -/
theorem filt_flat {p : List Int → Bool} {r : Int → Bool} : ∀ {bs : List (List Int)}, (∀ b ∈ bs, ∀ x ∈ b, r x = p b) → (bs.filter p).flatten = bs.flatten.filter r
  | [], _ => rfl
  | b :: bs, h => by
    have ih := filt_flat (bs := bs) fun c hc => h c (List.mem_cons_of_mem _ hc)
    have hb := h b (List.mem_cons_self ..)
    rw [List.flatten_cons, List.filter_append, ← ih]
    cases e : p b with
    | true =>
      rw [List.filter_cons_of_pos e, List.flatten_cons]
      congr 1
      exact (List.filter_eq_self.mpr fun x hx => by rw [hb x hx, e]).symm
    | false =>
      rw [List.filter_cons_of_neg (by simp [e])]
      have : b.filter r = [] := List.filter_eq_nil_iff.mpr fun x hx => by rw [hb x hx, e]; simp
      rw [this]
      rfl
theorem cuts_app (xs ys : List (List Int)) : cuts (xs ++ ys) = cuts xs ++ cuts ys := List.flatMap_append ..
theorem cuts_in {xs : List (List Int)} {b : List Int} (h : b ∈ cuts xs) {x : Int} (hx : x ∈ b) : x ∈ xs.flatten := by
  rw [← cuts_flat]
  exact List.mem_flatten.mpr ⟨b, h, hx⟩
theorem out_mrg {pre post : List (List Int)} {q : List Int} (nd : (pre ++ q :: post).flatten.Nodup) :
    mrg ((pre ++ post) ++ [[]]) = (mrg (pre ++ q :: post)).filter fun x => !decide (x ∈ q) := by
  have ndp : (q ++ (pre ++ post).flatten).Nodup := by
    refine (List.Perm.nodup_iff ?_).mp nd
    rw [List.flatten_append, List.flatten_cons, List.flatten_append, ← List.append_assoc, ← List.append_assoc]
    exact List.Perm.append_right _ List.perm_append_comm
  obtain ⟨_, ndr, apart⟩ := List.nodup_append.mp ndp
  have other : ∀ {b : List Int}, b ∈ cuts (pre ++ post) → ∀ x ∈ b, ¬ x ∈ q := fun hb x hx hq => apart x hq x (cuts_in hb hx) rfl
  have own : ∀ {b : List Int}, b ∈ cut q → ∀ x ∈ b, x ∈ q := fun {b} hb x hx => by
    rw [← (good_cut q).flat]
    exact List.mem_flatten.mpr ⟨b, hb, hx⟩
  have hcase : ∀ b ∈ bySm hd (cuts (pre ++ q :: post)), ∀ x ∈ b, (!decide (x ∈ q)) = (!decide (hd b ∈ q)) := by
    intro b hb x hx
    have hb2 := (by_perm hd _).mem_iff.mp hb
    rw [cuts_app] at hb2
    have hc : b ∈ cuts (pre ++ post) ∨ b ∈ cut q := by
      rcases List.mem_append.mp hb2 with z | z
      · exact Or.inl (by rw [cuts_app]; exact List.mem_append_left _ z)
      · rcases List.mem_append.mp (show b ∈ cut q ++ cuts post from z) with y | y
        · exact Or.inr y
        · exact Or.inl (by rw [cuts_app]; exact List.mem_append_right _ y)
    have hne : b ≠ [] := fun z => by rw [z] at hx; cases hx
    rcases hc with z | z
    · rw [decide_eq_false (other z x hx), decide_eq_false (other z _ (hd_mem hne))]
    · rw [decide_eq_true (own z x hx), decide_eq_true (own z _ (hd_mem hne))]
  show (bySm hd (cuts ((pre ++ post) ++ [[]]))).flatten = ((bySm hd (cuts (pre ++ q :: post))).flatten).filter _
  rw [← filt_flat (p := fun b => !decide (hd b ∈ q)) hcase]
  congr 1
  have e0 : cuts ((pre ++ post) ++ [[]]) = cuts (pre ++ post) := by rw [cuts_app]; exact List.append_nil _
  rw [e0]
  symm
  refine by_one ?_ (cuts_nd ndr) ((by_sorted hd _).sublist List.filter_sublist)
  refine ((by_perm hd (cuts (pre ++ q :: post))).filter _).trans ?_
  have e1 : cuts (pre ++ q :: post) = cuts pre ++ (cut q ++ cuts post) := by rw [cuts_app]; rfl
  rw [e1, List.filter_append, List.filter_append, cuts_app]
  have f1 : (cuts pre).filter (fun b => !decide (hd b ∈ q)) = cuts pre := List.filter_eq_self.mpr fun b hb => by
    obtain ⟨_, _, hq⟩ := cuts_mem hb
    have z : b ∈ cuts (pre ++ post) := by rw [cuts_app]; exact List.mem_append_left _ hb
    rw [decide_eq_false (other z _ (hd_mem (cut_mem hq).1))]; rfl
  have f2 : (cuts post).filter (fun b => !decide (hd b ∈ q)) = cuts post := List.filter_eq_self.mpr fun b hb => by
    obtain ⟨_, _, hq⟩ := cuts_mem hb
    have z : b ∈ cuts (pre ++ post) := by rw [cuts_app]; exact List.mem_append_right _ hb
    rw [decide_eq_false (other z _ (hd_mem (cut_mem hq).1))]; rfl
  have f3 : (cut q).filter (fun b => !decide (hd b ∈ q)) = [] := List.filter_eq_nil_iff.mpr fun b hb => by
    rw [decide_eq_true (own hb _ (hd_mem (cut_mem hb).1))]; simp
  rw [f1, f2, f3]
  exact List.Perm.refl _
end My
namespace My
open PySem PySem.Spec PyProof.Rows L2 LamX
theorem FamAt.ext {H H' : Hp} {a : Addr} {qs : List Addr} {fam : List (List Int)} (F : FamAt H a qs fam) (e : ExtN H H') : FamAt H' a qs fam :=
  ⟨xlst e F.top, F.rows.len, F.rows.nd, fun j q b e1 e2 => xlst e (F.rows.get j q b e1 e2)⟩
/-- a family within the limits -/
def Fit (fam : List (List Int)) : Prop := fam ≠ [] ∧ fam.flatten.Nodup ∧ fam.flatten.length ≤ 4000 ∧ fam.length ≤ 4000
end My
namespace My
open PySem PySem.Spec PyProof.Rows L2 LamX
theorem bxBut {D : Addr} {H H' H'' : Hp} (s : ExtN H H') (n : WF H D) (b : But D H' H'') : ExtN H H'' := fun x o e h => by
  refine b x o (fun z => ?_) (s x o e h)
  obtain ⟨ps, h2⟩ := n o (by rw [← z]; exact e)
  exact h ps h2
theorem pick2 (a b : Int) {v : Int} (h0 : 0 ≤ v) (h1 : v < 2) (p : Int → Prop) (ha : p a) (hb : p b) : ∃ g, atI [V.int a, V.int b] v = some (.int g) ∧ p g := by
  have hv : v = ((0 : Nat) : Int) ∨ v = ((1 : Nat) : Int) := by omega
  rcases hv with e | e
  · exact ⟨a, by rw [e]; exact atI_nat rfl, ha⟩
  · exact ⟨b, by rw [e]; exact atI_nat rfl, hb⟩
/-- what a law holds in its hands: a drum, a family, some lists -/
structure Bx (H H' : Hp) (T : List (Addr × Str)) (D : Addr) (n : Nat) (p : Addr) (qs : List Addr) (fam : List (List Int)) (L : List (Addr × List V)) : Prop where
  ex : ExtN H H'
  tb : Tabs T H'
  wD : WF H D
  dr : ∃ a b c, H' D = some (drl a b c) ∧ Drm a b c n
  fa : FamAt H' p qs fam
  pD : p ≠ D
  qD : ∀ q ∈ qs, q ≠ D
  held : ∀ x ∈ L, x.1 ≠ D ∧ H' x.1 = some (.lst x.2)
section
variable {H H' H'' : Hp} {T : List (Addr × Str)} {D : Addr} {n m : Nat} {p : Addr} {qs : List Addr} {fam : List (List Int)} {L : List (Addr × List V)}
theorem Bx.ext (B : Bx H H' T D n p qs fam L) (e : ExtN H' H'') (t : Tabs T H'') : Bx H H'' T D n p qs fam L := by
  obtain ⟨a, b, c, e1, e2⟩ := B.dr
  exact ⟨B.ex.trans e, t, B.wD, ⟨a, b, c, xlst e e1, e2⟩, B.fa.ext e, B.pD, B.qD, fun x hx => ⟨(B.held x hx).1, xlst e (B.held x hx).2⟩⟩
theorem Bx.same (B : Bx H H' T D n p qs fam L) (s : Same H' H'') : Bx H H'' T D n p qs fam L := B.ext (xsm s) (tabs_same B.tb s)
theorem Bx.new (B : Bx H H' T D n p qs fam L) {l : Addr} {o : HO} (e : H' l = none) : Bx H (upd H' l o) T D n p qs fam L := B.same (sameN e)
theorem Bx.spin (B : Bx H H' T D n p qs fam L) {a b c : Int} (d : Drm a b c m) : Bx H (upd H' D (drl a b c)) T D m p qs fam L := by
  obtain ⟨a0, b0, c0, e1, e2⟩ := B.dr
  refine ⟨xwr B.ex B.wD, tabs_write B.tb e1, B.wD, ⟨a, b, c, upd_same, d⟩, ⟨by rw [upd_ne B.pD]; exact B.fa.top, B.fa.rows.off fun z => B.qD D z rfl⟩, B.pD, B.qD, fun x hx => ⟨(B.held x hx).1, ?_⟩⟩
  rw [upd_ne (B.held x hx).1]
  exact (B.held x hx).2
theorem Bx.add (B : Bx H H' T D n p qs fam L) {a : Addr} {xs : List V} (h : H' a = some (.lst xs)) (ne : a ≠ D) : Bx H H' T D n p qs fam ((a, xs) :: L) :=
  ⟨B.ex, B.tb, B.wD, B.dr, B.fa, B.pD, B.qD, fun x hx => by
    rcases List.mem_cons.mp hx with e | e
    · rw [e]; exact ⟨ne, h⟩
    · exact B.held x e⟩
theorem Bx.neD (B : Bx H H' T D n p qs fam L) {l : Addr} (e : H' l = none) : l ≠ D := fun z => by
  obtain ⟨a, b, c, e1, _⟩ := B.dr
  rw [z, e1] at e
  cases e
theorem Bx.wf (B : Bx H H' T D n p qs fam L) {l : Addr} (e : H' l = none) : WF H l := WF.ext B.ex (WF.of e)
/-- an object of its own is written -/
theorem Bx.put (B : Bx H H' T D n p qs fam L) {l : Addr} {xs : List V} {o : HO} (w : WF H l) (h : H' l = some (.lst xs)) (e1 : p ≠ l) (e2 : l ∉ qs) (e3 : l ≠ D) (e4 : ∀ x ∈ L, x.1 ≠ l) : Bx H (upd H' l o) T D n p qs fam L := by
  obtain ⟨a0, b0, c0, d1, d2⟩ := B.dr
  refine ⟨xwr B.ex w, tabs_write B.tb h, B.wD, ⟨a0, b0, c0, by rw [upd_ne e3.symm]; exact d1, d2⟩, ⟨by rw [upd_ne e1]; exact B.fa.top, B.fa.rows.off e2⟩, B.pD, B.qD, fun x hx => ⟨(B.held x hx).1, ?_⟩⟩
  rw [upd_ne (e4 x hx)]
  exact (B.held x hx).2
theorem Bx.up (B : Bx H H' T D n p qs fam L) (h : n ≤ m) : Bx H H' T D m p qs fam L := by
  obtain ⟨a, b, c, e1, e2⟩ := B.dr
  exact ⟨B.ex, B.tb, B.wD, ⟨a, b, c, e1, e2.up h⟩, B.fa, B.pD, B.qD, B.held⟩
end
section
variable {H H' : Hp} {T : List (Addr × Str)} {D : Addr} {n : Nat} {p : Addr} {qs : List Addr} {fam : List (List Int)} {L : List (Addr × List V)} {a : Addr} {xs : List V} {x0 x1 x2 : Addr × List V}
theorem Bx.h0 (B : Bx H H' T D n p qs fam ((a, xs) :: L)) : a ≠ D ∧ H' a = some (.lst xs) := B.held (a, xs) (List.mem_cons_self ..)
theorem Bx.h1 (B : Bx H H' T D n p qs fam (x0 :: (a, xs) :: L)) : a ≠ D ∧ H' a = some (.lst xs) := B.held (a, xs) (List.mem_cons_of_mem _ (List.mem_cons_self ..))
theorem Bx.h2 (B : Bx H H' T D n p qs fam (x0 :: x1 :: (a, xs) :: L)) : a ≠ D ∧ H' a = some (.lst xs) := B.held (a, xs) (List.mem_cons_of_mem _ (List.mem_cons_of_mem _ (List.mem_cons_self ..)))
theorem Bx.h3 (B : Bx H H' T D n p qs fam (x0 :: x1 :: x2 :: (a, xs) :: L)) : a ≠ D ∧ H' a = some (.lst xs) := B.held (a, xs) (List.mem_cons_of_mem _ (List.mem_cons_of_mem _ (List.mem_cons_of_mem _ (List.mem_cons_self ..))))
end
/-! rows picked -/
theorem Rws.pick {H : Hp} {qs : List Addr} {bs : List (List Int)} (R : Rws H qs (vv bs)) {idx : List Nat} (p : idx.Perm (List.range bs.length)) : Rws H (idx.map fun i => qs.getD i 0) (vv (idx.map (row bs))) := by
  have hl : qs.length = bs.length := by rw [R.len, vv_len]
  refine ⟨by simp, ?_, ?_⟩
  · have e : (List.range qs.length).map (fun i => qs.getD i 0) = qs := by
      refine List.ext_getElem (by simp) fun i h1 h2 => ?_
      have h3 : i < qs.length := h2
      simp [List.getD_eq_getElem?_getD, List.getElem?_eq_getElem h3]
    have z := p.map fun i => qs.getD i 0
    rw [← hl, e] at z
    exact z.nodup_iff.mpr R.nd
  · intro j q b e1 e2
    rw [List.getElem?_map] at e1
    obtain ⟨i, hi, rfl⟩ := Option.map_eq_some_iff.mp e1
    have hib : i < bs.length := List.mem_range.mp (p.mem_iff.mp (List.mem_of_getElem? hi))
    have e3 : b = (row bs i).map V.int := by
      rw [List.getElem?_map, List.getElem?_map, hi] at e2
      exact (Option.some.inj e2).symm
    rw [e3]
    refine R.get i _ _ ?_ ?_
    · have : i < qs.length := by omega
      simp [List.getD_eq_getElem?_getD, List.getElem?_eq_getElem this]
    · rw [List.getElem?_map]
      simp [row, List.getD_eq_getElem?_getD, List.getElem?_eq_getElem hib]
theorem Rws.erase {H : Hp} {qs : List Addr} {bs : List (List V)} (R : Rws H qs bs) (j : Nat) : Rws H (qs.eraseIdx j) (bs.eraseIdx j) := by
  refine ⟨by rw [List.length_eraseIdx, List.length_eraseIdx, R.len], R.nd.sublist (List.eraseIdx_sublist ..), ?_⟩
  intro i q b e1 e2
  rw [List.getElem?_eraseIdx] at e1 e2
  split at e1
  · rename_i h
    rw [if_pos h] at e2
    exact R.get i q b e1 e2
  · rename_i h
    rw [if_neg h] at e2
    exact R.get (i + 1) q b e1 e2
theorem fit_perm {xs ys : List (List Int)} (F : Fit xs) (p : ys.Perm xs) : Fit ys := by
  obtain ⟨h1, h2, h3, h4⟩ := F
  have pf := p.flatten
  refine ⟨fun z => h1 ?_, pf.nodup_iff.mpr h2, by rw [pf.length_eq]; exact h3, by rw [p.length_eq]; exact h4⟩
  rw [z] at p
  exact List.nil_perm.mp p
theorem rows_perm {fam : List (List Int)} {idx : List Nat} (p : idx.Perm (List.range fam.length)) : (idx.map (row fam)).Perm fam := by
  have z := p.map (row fam)
  rw [rows_all] at z
  exact z
theorem any_I (x : Int) (q : List Int) : ((q.map PyData.int).any fun z => PyData.eqv z (.int x)) = decide (x ∈ q) := by
  induction q with
  | nil => rfl
  | cons y q ih =>
    rw [List.map_cons, List.any_cons, ih]
    have e : PyData.eqv (.int y) (.int x) = decide (y = x) := by simp only [PyData.eqv]; rw [Bool.eq_iff_iff]; simp
    rw [e]
    by_cases h : x = y
    · simp [h]
    · have h2 : ¬ y = x := fun z => h z.symm
      simp [h, h2]
theorem shaped_int (x : Int) : SeqAt.shaped (.int x) = true := by simp [SeqAt.shaped, PyData.canLay0, PyData.depth]
theorem cut_from {xs : List V} (j : Nat) : cutV xs (some ((j : Int) + 1)) none = xs.drop (j + 1) := by
  unfold cutV
  have e : ((j : Int) + 1) = ((j + 1 : Nat) : Int) := rfl
  rw [e, HT.sIx_nat, HT.sIx_none]
  rcases Nat.le_total (j + 1) xs.length with h | h
  · rw [Nat.min_eq_left h, List.take_of_length_le (by rw [List.length_drop]; exact Nat.le_refl _)]
  · rw [Nat.min_eq_right h, Nat.sub_self, List.take_zero, List.drop_of_length_le h]
end My
namespace My
open PySem PySem.Spec PyProof.Rows L2 LamX
/-! numbers moved and multiplied -/
structure Mono (g : Int → Int) : Prop where
  lt : ∀ x y, x < y ↔ g x < g y
theorem Mono.inj {g : Int → Int} (M : Mono g) {x y : Int} (e : g x = g y) : x = y := by
  rcases Int.lt_trichotomy x y with h | h | h
  · have := (M.lt x y).mp h; omega
  · exact h
  · have := (M.lt y x).mp h; omega
theorem mono_lin {t b : Int} (h : 1 ≤ t) : Mono fun x => x * t + b := ⟨fun x y => by
  constructor
  · intro z
    have := Int.mul_lt_mul_of_pos_right z (show 0 < t by omega)
    show x * t + b < y * t + b
    omega
  · intro z
    have z' : x * t + b < y * t + b := z
    rcases Int.lt_or_le x y with w | w
    · exact w
    · have := Int.mul_le_mul_of_nonneg_right w (show 0 ≤ t by omega)
      omega⟩
theorem hdMap {g : Int → Int} {b : List Int} (h : b ≠ []) : hd (b.map g) = g (hd b) := by
  cases b with
  | nil => exact absurd rfl h
  | cons x r => rfl
theorem putMap {g : Int → Int} (M : Mono g) {bs : List (List Int)} (n : Int) (h : ∀ b ∈ bs, b ≠ []) : put (bs.map (List.map g)) (g n) = (put bs n).map (List.map g) ∧ ∀ b ∈ put bs n, b ≠ [] := by
  rcases List.eq_nil_or_concat bs with z | ⟨ini, l, z⟩
  · subst z
    exact ⟨rfl, fun b hb => by rw [List.mem_singleton.mp hb]; simp⟩
  · rw [List.concat_eq_append] at z
    subst z
    have hl : l ≠ [] := h l (List.mem_append_right _ (List.mem_singleton.mpr rfl))
    have e : (ini ++ [l]).map (List.map g) = ini.map (List.map g) ++ [l.map g] := List.map_append ..
    rw [e, put_snoc, put_snoc]
    have hh : ((l.map g).headD 0 < g n) ↔ (l.headD 0 < n) := by
      have e2 : (l.map g).headD 0 = g (l.headD 0) := hdMap hl
      rw [e2]
      exact (M.lt _ _).symm
    by_cases c : l.headD 0 < n
    · rw [if_pos c, if_pos (hh.mpr c)]
      refine ⟨by simp, fun b hb => ?_⟩
      rcases List.mem_append.mp hb with y | y
      · exact h b y
      · rw [List.mem_singleton.mp y]; simp
    · rw [if_neg c, if_neg (fun y => c (hh.mp y))]
      refine ⟨by simp, fun b hb => ?_⟩
      rcases List.mem_append.mp hb with y | y
      · exact h b (List.mem_append_left _ y)
      · rw [List.mem_singleton.mp y]; simp
theorem foldMap {g : Int → Int} (M : Mono g) : ∀ (ns : List Int) (bs : List (List Int)), (∀ b ∈ bs, b ≠ []) → (ns.map g).foldl put (bs.map (List.map g)) = (ns.foldl put bs).map (List.map g)
  | [], _, _ => rfl
  | n :: ns, bs, h => by
    obtain ⟨e1, e2⟩ := putMap M n h
    show (ns.map g).foldl put (put (bs.map (List.map g)) (g n)) = _
    rw [e1]
    exact foldMap M ns (put bs n) e2
theorem cutMap {g : Int → Int} (M : Mono g) (ns : List Int) : cut (ns.map g) = (cut ns).map (List.map g) := foldMap M ns [] (by simp)
abbrev mv (g : Int → Int) (fam : List (List Int)) : List (List Int) := fam.map (List.map g)
theorem mv_flat (g : Int → Int) (fam : List (List Int)) : (mv g fam).flatten = fam.flatten.map g := List.map_flatten.symm
theorem mv_nd {g : Int → Int} (M : Mono g) {fam : List (List Int)} (nd : fam.flatten.Nodup) : (mv g fam).flatten.Nodup := by
  rw [mv_flat]
  exact List.pairwise_map.mpr (nd.imp fun h e => h (M.inj e))
theorem mv_cuts {g : Int → Int} (M : Mono g) : ∀ fam : List (List Int), cuts (mv g fam) = (cuts fam).map (List.map g)
  | [] => rfl
  | q :: qs => by
    show cut (q.map g) ++ cuts (mv g qs) = (cut q ++ cuts qs).map (List.map g)
    rw [cutMap M, mv_cuts M qs, List.map_append]
theorem mv_mrg {g : Int → Int} (M : Mono g) {fam : List (List Int)} (nd : fam.flatten.Nodup) : mrg (mv g fam) = (mrg fam).map g := by
  have e : (bySm hd (cuts fam)).map (List.map g) = bySm hd (cuts (mv g fam)) := by
    refine by_one ?_ (cuts_nd (mv_nd M nd)) ?_
    · rw [mv_cuts M]
      exact (by_perm hd (cuts fam)).map _
    · refine List.pairwise_map.mpr ((by_sorted hd (cuts fam)).imp_of_mem fun {a b} ha hb h => ?_)
      have bn : ∀ {c : List Int}, c ∈ bySm hd (cuts fam) → c ≠ [] := fun hc => by
        obtain ⟨_, _, h2⟩ := cuts_mem ((by_perm hd (cuts fam)).mem_iff.mp hc)
        exact (cut_mem h2).1
      rw [hdMap (bn ha), hdMap (bn hb)]
      rcases Int.lt_or_le (g (hd b)) (g (hd a)) with z | z
      · have := (M.lt _ _).mpr z
        omega
      · exact z
  unfold mrg
  rw [← e, ← List.map_flatten]
theorem mv_plc {g : Int → Int} (M : Mono g) : ∀ (fam : List (List Int)) (k : Nat), plc k (mv g fam) = (plc k fam).map fun r => (r.1, r.2.map g)
  | [], _ => rfl
  | q :: qs, k => by
    show (cut (q.map g)).map (fun b => (k, b)) ++ plc (k + 1) (mv g qs) = ((cut q).map (fun b => (k, b)) ++ plc (k + 1) qs).map _
    rw [cutMap M, mv_plc M qs (k + 1), List.map_append, List.map_map, List.map_map]
    rfl
theorem mv_asg {g : Int → Int} (M : Mono g) {fam : List (List Int)} (nd : fam.flatten.Nodup) : asg (mv g fam) = asg fam := by
  have nd2 : ((plc 0 (mv g fam)).map fun r : Nat × List Int => hd r.2).Nodup := by
    have e : (plc 0 (mv g fam)).map (fun r : Nat × List Int => hd r.2) = (cuts (mv g fam)).map hd := by rw [← plc_snd (mv g fam) 0, List.map_map]; rfl
    rw [e]
    exact cuts_nd (mv_nd M nd)
  have e : (srt fam).map (fun r => (r.1, r.2.map g)) = srt (mv g fam) := by
    refine by_one ?_ nd2 ?_
    · rw [mv_plc M]
      exact (by_perm _ _).map _
    · refine List.pairwise_map.mpr ((by_sorted (fun r : Nat × List Int => hd r.2) (plc 0 fam)).imp_of_mem fun {a b} ha hb h => ?_)
      have bn : ∀ {c : Nat × List Int}, c ∈ bySm (fun r : Nat × List Int => hd r.2) (plc 0 fam) → c.2 ≠ [] := fun hc => by
        obtain ⟨_, _, _, h2⟩ := plc_mem fam 0 ((by_perm _ (plc 0 fam)).mem_iff.mp hc)
        exact (cut_mem h2).1
      show hd (a.2.map g) ≤ hd (b.2.map g)
      rw [hdMap (bn ha), hdMap (bn hb)]
      rcases Int.lt_or_le (g (hd b.2)) (g (hd a.2)) with z | z
      · have := (M.lt _ _).mpr z
        have h' : hd a.2 ≤ hd b.2 := h
        omega
      · exact z
  unfold asg
  rw [← e, List.map_map]
  rfl
end My
namespace My
open PySem PySem.Spec PyProof.Rows L2 LamX
abbrev nR6 : List Str := ["drum", "family", "result", "every", "queue", "records", "at", "first", "block", "one"]
theorem scRight : FnScope nR6 ["drum", "family"] (defScope sRight) := ⟨rfl, rfl, rfl, by decide +kernel, rfl, by decide +kernel, by decide +kernel⟩
theorem shapedR (bs : List (List Int)) : SeqAt.shaped (dR bs) = true := by
  have h := dR_depth bs
  show ((dR bs).canLay0 && decide ((dR bs).depth ≤ 64)) = true
  rw [Bool.and_eq_true]
  refine ⟨?_, decide_eq_true (by omega)⟩
  unfold dR
  simp only [PyData.canLay0]
  induction bs with
  | nil => simp [PyData.canLayAll0]
  | cons c cs ih =>
    have h1 : (dI c).canLay0 = true := by unfold dI; simp only [PyData.canLay0]; exact lay_ints c
    have h2 := ih (dR_depth cs)
    simp [PyData.canLayAll0, h1, h2]
theorem eqvRefl (bs : List (List Int)) : PyData.eqv (dR bs) (dR bs) = true := by
  unfold dR
  simp only [PyData.eqv]
  induction bs with
  | nil => simp [PyData.eqvAll]
  | cons c cs ih =>
    have h1 : PyData.eqv (dI c) (dI c) = true := by rw [eqvI]; simp
    simp [PyData.eqvAll, h1, ih]
theorem dpAllZ {K : PySem.W.Frag} {H : Hp} : ∀ {zs : List Zr}, (∀ z ∈ zs, H z.1 = some (.lst (z.2.map V.int))) → DpAll K H (zs.map zref) ((zs.map (·.2)).map dI)
  | [], _ => .nil
  | z :: zs, h => .cons (dpI (SqL.of (h z (List.mem_cons_self ..)))) (dpAllZ fun y hy => h y (List.mem_cons_of_mem _ hy))
theorem lexHd {a b : List Int} (ha : a ≠ []) (hb : b ≠ []) (h : a ≤ b) : hd a ≤ hd b := by
  cases a with
  | nil => exact absurd rfl ha
  | cons x xs =>
    cases b with
    | nil => exact absurd rfl hb
    | cons y ys =>
      rcases Int.lt_or_le y x with z | z
      · exact absurd (List.Lex.rel z : (y :: ys) < (x :: xs)) (List.not_lt.mpr h)
      · exact z
theorem ascOne : ∀ {xs ys : List Int}, xs.Pairwise (· < ·) → ys.Pairwise (· < ·) → (∀ k, k ∈ xs ↔ k ∈ ys) → xs = ys
  | [], [], _, _, _ => rfl
  | [], y :: ys, _, _, h => absurd ((h y).mpr (List.mem_cons_self ..)) (by simp)
  | x :: xs, [], _, _, h => absurd ((h x).mp (List.mem_cons_self ..)) (by simp)
  | x :: xs, y :: ys, p, q, h => by
    obtain ⟨p1, p2⟩ := List.pairwise_cons.mp p
    obtain ⟨q1, q2⟩ := List.pairwise_cons.mp q
    have e : x = y := by
      rcases List.mem_cons.mp ((h x).mp (List.mem_cons_self ..)) with z | z
      · exact z
      · rcases List.mem_cons.mp ((h y).mpr (List.mem_cons_self ..)) with w | w
        · exact w.symm
        · have := q1 x z
          have := p1 y w
          omega
    subst e
    rw [ascOne p2 q2 fun k => ?_]
    constructor
    · intro hk
      rcases List.mem_cons.mp ((h k).mp (List.mem_cons_of_mem _ hk)) with z | z
      · have := p1 k hk
        omega
      · exact z
    · intro hk
      rcases List.mem_cons.mp ((h k).mpr (List.mem_cons_of_mem _ hk)) with z | z
      · have := q1 k hk
        omega
      · exact z
theorem mrgOne {f : List Int} (nd : f.Nodup) : mrg [f] = f := by
  have e : cuts [f] = cut f := List.append_nil _
  have nd2 : [f].flatten.Nodup := by simpa using nd
  have s : cut f = bySm hd (cuts [f]) := by
    refine by_one (by rw [e]) (cuts_nd nd2) ((cut_asc f).imp fun z => Int.le_of_lt z)
  unfold mrg
  rw [← s, (good_cut f).flat]
theorem zipRef {qs : List Addr} {bs : List (List Int)} (h : qs.length = bs.length) : (qs.zip bs).map zref = qs.map V.ref := by
  have e : (qs.zip bs).map zref = ((qs.zip bs).map Prod.fst).map V.ref := by rw [List.map_map]; rfl
  rw [e, List.map_fst_zip (by omega)]
theorem takeCuts {fam : List (List Int)} {i : Nat} {f : List Int} (h : fam[i]? = some f) : cuts (fam.take (i + 1)) = cuts (fam.take i) ++ cut f := by
  rw [List.take_add_one, h, cuts_app]
  congr 1
  exact List.append_nil _
theorem cutsLen (fam : List (List Int)) : (cuts fam).length ≤ fam.flatten.length := by
  have h2 := flat_len (bs := cuts fam) fun b hb => by
    obtain ⟨q, _, hq⟩ := cuts_mem hb
    exact (cut_mem hq).1
  rwa [cuts_flat] at h2
theorem cutFrom {xs : List V} (j : Nat) : cutV xs (some (j : Int)) none = xs.drop j := by
  unfold cutV
  rw [HT.sIx_nat, HT.sIx_none]
  rcases Nat.le_total j xs.length with h | h
  · rw [Nat.min_eq_left h, List.take_of_length_le (by rw [List.length_drop]; exact Nat.le_refl _)]
  · rw [Nat.min_eq_right h, Nat.sub_self, List.take_zero, List.drop_of_length_le h]
section
variable {P : Program} {w : World} {K : PySem.W.Frag} {mg : Str → Option Value} {base : Heap}
def spRight (T : List (Addr × Str)) : Sp := fun vs H Q _ => ∃ (H0 : Hp) (D : Addr) (n : Nat) (p : Addr) (qs : List Addr) (fam : List (List Int)) (L : List (Addr × List V)), vs = [.ref D, .ref p] ∧ Bx H0 H T D n p qs fam L ∧ n ≤ 800000 ∧
  fam ≠ [] ∧ fam.flatten.Nodup ∧ fam.flatten.length ≤ 60 ∧ fam.length ≤ 60 ∧ ∀ H', Bx H0 H' T D (n + 1) p qs fam L → Q (.bl true) H'
abbrev teHd (K : PySem.W.Frag) (i : Nat) : TE := tOp (rIxL K) (tVar i) (tC (.int 0))
set_option maxHeartbeats 0 in
theorem ok_right {T : List (Addr × Str)} {f fM fB fS : Addr} {fd fdM fdB fdS : FuncData} {k : Nat} (F : Fun K "_law_right" "_law_right" sRight f fd) (X : Txt mg)
    (GM : FnOk P w K mg base CX0 k fM fdM ["family"] (spMerge T)) (gM : mg "merged" = some (.ref fM)) (kM : PySem.W.keepIn K (.ref fM) = true) (bM : Binds K fdM ["family"] [])
    (GB : FnOk P w K mg base CX0 k fB fdB ["numbers"] spBlocks) (gB : mg "blocks_of" = some (.ref fB)) (kB : PySem.W.keepIn K (.ref fB) = true) (bB : Binds K fdB ["numbers"] [])
    (GS : FnOk P w K mg base CX0 k fS fdS ["drum", "size"] spSpin) (gS : mg "_law_spin" = some (.ref fS)) (kS : PySem.W.keepIn K (.ref fS) = true) (bS : Binds K fdS ["drum", "size"] []) :
    FnOk P w K mg base CX0 (k + 1) f fd ["drum", "family"] (spRight T) := by
  refine F.ok scRight (fun vs H Q E h => ?_) (fun cdv A outer s H vs Q E hr h => ?_)
  · obtain ⟨H0, D, n, p, qs, fam, L, rfl, _⟩ := h
    rfl
  · obtain ⟨H0, D, n, p, qs, fam, L, rfl, B, hn, ne, nd, hl, hl2, q⟩ := h
    refine ⟨_, pss_cons (ps_par (i := 2) (j := 3) (by rfl) scRight.nd rfl rfl (by decide) rfl rfl (pa_cons (pe_call GM hr (by rfl) gM kM bM .nil pass0 (pa_cons (pv 1) pa_nil)) (pa_cons (pe_lst pa_nil) pa_nil)) (by rfl))
      (pss_cons (ps_for PassesOwn.never rfl (pi_list (pv 1)) (pg_name (i := 4) scRight.nd rfl (.inl rfl))
        (pss_cons (ps_set (i := 3) scRight.nd rfl (.inl rfl) (pe_op op_cat (pv 3) (pe_call GB hr (by rfl) gB kB bB .nil pass0 (pa_cons (pv 4) pa_nil))))
        (pss_one (ps_if (pt_cmpR (op_neD hr.units) (pe_call GM hr (by rfl) gM kM bM .nil pass0 (pa_cons (pe_lst (pa_cons (pv 4) pa_nil)) pa_nil)) (pv 4) (nomark _)) (pss_one (ps_ret pe_bl)) pss_nil))))
      (pss_cons (ps_if (pt_cmpR (op_neD hr.units) (pe_callB (cr_sortRows hr.units) (by rfl) X.sorted (by decide +kernel) (pa_cons (pv 3) pa_nil)) (pe_call GB hr (by rfl) gB kB bB .nil pass0 (pa_cons (pv 2) pa_nil)) (nomark _)) (pss_one (ps_ret pe_bl)) pss_nil)
      (pss_cons (ps_setLc (i := 5) (te := teHd K 8) (own := [("block", 8)]) (g := gName 8) (by rfl) scRight.nd rfl rfl (sw_true rfl rfl rfl (by decide +kernel))
            (pi_list (pv 3)) (blkOk_by (own := [("block", 8)]) (N := nR6) (sc := defScope sRight) (by decide +kernel))
            (fun _ _ _ _ _ => pg_name (i := 8) scRight.nd rfl (Or.inl rfl)) (fun _ _ _ _ _ => pts_nil) (fun _ _ _ _ _ => pe_ix ix_list (pv 8) pe_int (fun _ _ => rfl)))
      (pss_cons (ps_if (pt_cmpR (op_neD hr.units) (pe_lc (te := tCB (rMax K) (tCons (tVar 8) tNil)) (own := [("block", 8)]) (g := gName 8) (by rfl) scRight.nd
            (pi_list (pv 3)) (blkOk_by (own := [("block", 8)]) (N := nR6) (sc := defScope sRight) (by decide +kernel))
            (fun _ _ _ _ _ => pg_name (i := 8) scRight.nd rfl (Or.inl rfl)) (fun _ _ _ _ _ => pts_nil) (fun _ _ _ _ _ => pe_callB (cr_max rfl) (by rfl) X.max (by decide +kernel) (pa_cons (pv 8) pa_nil))) (pv 5) (nomark _)) (pss_one (ps_ret pe_bl)) pss_nil)
      (pss_cons (ps_if (pt_cmpR (op_neD hr.units) (pe_callB (cr_sortedSet (by rfl)) (by rfl) X.sorted (by decide +kernel) (pa_cons (pe_callTy (cr_setL (by rfl)) (by rfl) X.set (by decide +kernel) (pa_cons (pv 5) pa_nil)) pa_nil))
            (pe_lc (te := teHd K 9) (own := [("one", 9)]) (g := gName 9) (by rfl) scRight.nd (pi_list (pe_call GB hr (by rfl) gB kB bB .nil pass0 (pa_cons (pv 2) pa_nil))) (blkOk_by (own := [("one", 9)]) (N := nR6) (sc := defScope sRight) (by decide +kernel))
            (fun _ _ _ _ _ => pg_name (i := 9) scRight.nd rfl (Or.inl rfl)) (fun _ _ _ _ _ => pts_nil) (fun _ _ _ _ _ => pe_ix ix_list (pv 9) pe_int (fun _ _ => rfl))) (nomark _)) (pss_one (ps_ret pe_bl)) pss_nil)
      (pss_cons (ps_set (i := 6) scRight.nd rfl (.inl rfl) (pe_call GS hr (by rfl) gS kS bS .nil pass0 (pa_cons (pv 0) (pa_cons (pe_op op_add (pe_callB call_len_seq (by rfl) X.len PySem.boot_len (pa_cons (pv 1) pa_nil)) pe_int) pa_nil))))
      (pss_cons (ps_set (i := 7) scRight.nd rfl (.inl rfl) (pe_ifExp (pt_cmpR op_gt (pv 6) pe_int (nomark _))
            (pe_lst (pa_cons (pe_call GM hr (by rfl) gM kM bM .nil pass0 (pa_cons (pe_slice sl_list (pv 1) po_none (po_some (pv 6))) pa_nil)) pa_nil)) (pe_lst pa_nil)))
      (pss_one (ps_ret (pe_and (pe_cmpR (op_eqD hr.units) (pe_call GM hr (by rfl) gM kM bM .nil pass0 (pa_cons (pe_op op_cat (pv 7) (pe_slice sl_list (pv 1) (po_some (pv 6)) po_none)) pa_nil)) (pv 2) (nomark _))
        (pe_one (pe_cmpR (op_eqD hr.units) (pe_call GM hr (by rfl) gM kM bM .nil pass0 (pa_cons (pe_revL (pv 1)) pa_nil)) (pv 2) (nomark _))))))))))))), ?_⟩
    have neD : ∀ {H' : Hp} {m : Nat} {L' : List (Addr × List V)} {l : Addr}, Bx H0 H' T D m p qs fam L' → WF H' l → l ≠ D := fun B' w z => by
      obtain ⟨a8, b8, c8, D8, d8⟩ := B'.dr
      obtain ⟨ps, e⟩ := w _ (by rw [z]; exact D8)
      cases e
    have mlen : (mrg fam).length ≤ 60 := by rw [mrg_len]; exact hl
    have mnd := mrg_nd nd
    refine ⟨.ref p, rfl, p, qs, fam, rfl, B.fa, ne, nd, by omega, by omega, B.tb, fun H1 R ex1 t1 wR hR => ⟨Nat.zero_le _, fun ev nev => ⟨_, _, rfl, ?_⟩⟩⟩
    have B1 := (B.ext ex1 t1).add hR (neD B wR)
    have B2 := B1.new (o := .lst []) nev
    have hev : upd H1 ev (.lst []) ev = some (.lst []) := upd_same
    generalize upd H1 ev (.lst []) = H2 at B2 hev ⊢
    clear B1
    -- the blocks of all queues
    refine ⟨.ref p, rfl, p, rfl, ⟨_, SqL.of B2.fa.top⟩, for_list (K := K) (a := p) (xs := qs.map V.ref)
      (fun i σ H' => ∃ (y4 : Option V) (e : Addr) (zs : List Zr), σ = [some (.ref D), some (.ref p), some (.ref R), some (.ref e), y4, none, none, none, none, none] ∧ Bx H0 H' T D n p qs fam ((e, zs.map zref) :: (R, (mrg fam).map V.int) :: L) ∧
        (∀ z ∈ zs, H' z.1 = some (.lst (z.2.map V.int))) ∧ zs.map (·.2) = cuts (fam.take i))
      ⟨none, ev, [], rfl, B2.add hev (by
        intro z
        obtain ⟨a8, b8, c8, D8, d8⟩ := B2.dr
        rw [← z, hev] at D8
        cases D8), (fun z hz => nomatch hz), rfl⟩ ?_ ?_ ?_⟩
    · rintro i σ H' _ ⟨_, _, _, _, B', _⟩
      exact SqL.of B'.fa.top
    · rintro i x σ H3 hx ⟨y4, e, zs, rfl, B3, hzs, hcut⟩
      rw [List.getElem?_map] at hx
      obtain ⟨qq, hq, rfl⟩ := Option.map_eq_some_iff.mp hx
      obtain ⟨ff, hf, hrow⟩ := B3.fa.row hq
      have ffm := List.mem_of_getElem? hf
      have ndf : ff.Nodup := (List.pairwise_flatten.mp nd).1 ff ffm
      have fl := flat_mem_len ffm
      refine ⟨.ref e, rfl, .ref qq, rfl, qq, ff, rfl, hrow, ndf, by omega, fun H4 pb qb N => ?_⟩
      have B4 := B3.same N.same
      have qbl : qb.length = (cut ff).length := by
        have z := N.rows.len
        rwa [vv_len] at z
      have zl : zs.length ≤ 60 := by
        have z := congrArg List.length hcut
        rw [List.length_map] at z
        have := cutsLen (fam.take i)
        have := flat_take_len (fam := fam) i
        omega
      have cl := (good_cut ff).len
      refine ⟨e, pb, _, _, rfl, rfl, B4.h0.2, N.top, ?_, fun e2 ne2 => ?_⟩
      · rw [List.length_map, List.length_map]; unfold sizeLine; omega
      have ezs : zs.map zref ++ qb.map V.ref = (zs ++ qb.zip (cut ff)).map zref := by rw [List.map_append, zipRef qbl]
      rw [ezs]
      have B5 := B4.new (o := .lst ((zs ++ qb.zip (cut ff)).map zref)) ne2
      have e5 : upd H4 e2 (.lst ((zs ++ qb.zip (cut ff)).map zref)) e2 = some (.lst ((zs ++ qb.zip (cut ff)).map zref)) := upd_same
      have r5 : ∀ z ∈ zs ++ qb.zip (cut ff), upd H4 e2 (.lst ((zs ++ qb.zip (cut ff)).map zref)) z.1 = some (.lst (z.2.map V.int)) := by
        intro z hz
        have h4 : H4 z.1 = some (.lst (z.2.map V.int)) := by
          rcases List.mem_append.mp hz with y | y
          · exact N.same _ _ (hzs z y)
          · obtain ⟨j, hj⟩ := List.mem_iff_getElem?.mp y
            obtain ⟨j1, j2⟩ := List.getElem?_zip_eq_some.mp hj
            exact N.rows.get j _ _ j1 (by rw [List.getElem?_map, j2]; rfl)
        rw [upd_ne (ne_of_none h4 ne2)]
        exact h4
      have c5 : (zs ++ qb.zip (cut ff)).map (·.2) = cuts (fam.take (i + 1)) := by
        rw [List.map_append, hcut, takeCuts hf]
        congr 1
        exact List.map_snd_zip (by omega)
      have ne2D := B4.neD ne2
      generalize upd H4 e2 (.lst ((zs ++ qb.zip (cut ff)).map zref)) = H5 at B5 e5 r5 ⊢
      -- the queue alone
      have hrow5 : H5 qq = some (.lst (ff.map V.int)) := B5.fa.rows.get i _ _ hq (by rw [List.getElem?_map, hf]; rfl)
      refine ⟨.ref qq, rfl, (show 1 ≤ sizeLine by decide), fun l nl => ?_⟩
      have B6 := B5.new (o := .lst [.ref qq]) nl
      have FQ : FamAt (upd H5 l (.lst [.ref qq])) l [qq] [ff] := ⟨upd_same, Rws.nil.cons (by rw [upd_ne (ne_of_none hrow5 nl)]; exact hrow5) (by simp)⟩
      have e6 : upd H5 l (.lst [.ref qq]) e2 = some (.lst ((zs ++ qb.zip (cut ff)).map zref)) := by rw [upd_ne (ne_of_none e5 nl)]; exact e5
      have r6 : ∀ z ∈ zs ++ qb.zip (cut ff), upd H5 l (.lst [.ref qq]) z.1 = some (.lst (z.2.map V.int)) := fun z hz => by rw [upd_ne (ne_of_none (r5 z hz) nl)]; exact r5 z hz
      generalize upd H5 l (.lst [.ref qq]) = H6 at B6 FQ e6 r6 ⊢
      refine ⟨l, [qq], [ff], rfl, FQ, by simp, by simpa using ndf, by simp; omega, by simp, B6.tb, fun H7 M ex7 t7 _ hM => ?_⟩
      have B7 := B6.ext ex7 t7
      have hrow7 : H7 qq = some (.lst (ff.map V.int)) := B7.fa.rows.get i _ _ hq (by rw [List.getElem?_map, hf]; rfl)
      refine ⟨.ref qq, rfl, dI (mrg [ff]), dI ff, dpI (SqL.of hM), dpI (SqL.of hrow7), shaped_I _, shaped_I _, ?_⟩
      rw [eqvI]
      refine ⟨_, rfl, iteNS (mrgOne ndf) ?_⟩
      have hd7 : ∀ x ∈ (e2, (zs ++ qb.zip (cut ff)).map zref) :: (R, (mrg fam).map V.int) :: L, x.1 ≠ D ∧ H7 x.1 = some (.lst x.2) := fun x hx => by
        rcases List.mem_cons.mp hx with y | y
        · rw [y]; exact ⟨ne2D, xlst ex7 e6⟩
        · exact B7.held x (List.mem_cons_of_mem _ y)
      exact ⟨_, e2, _, rfl, ⟨B7.ex, B7.tb, B7.wD, B7.dr, B7.fa, B7.pD, B7.qD, hd7⟩, fun z hz => xlst ex7 (r6 z hz), c5⟩
    rintro σ H3 ⟨y4, e, zs, rfl, B3, hzs, hcut⟩
    have etk : fam.take (qs.map V.ref).length = fam := List.take_of_length_le (by rw [List.length_map, B3.fa.len]; exact Nat.le_refl _)
    rw [etk] at hcut
    have zl : zs.length ≤ 60 := by
      have z := congrArg List.length hcut
      rw [List.length_map] at z
      have := cutsLen fam
      omega
    have zb : ∀ z ∈ zs, z.2 ≠ [] ∧ ∀ x ∈ z.2, x ≤ hd z.2 := fun z hz => by
      have h1 : z.2 ∈ cuts fam := by rw [← hcut]; exact List.mem_map.mpr ⟨z, hz, rfl⟩
      obtain ⟨_, _, h2⟩ := cuts_mem h1
      exact cut_mem h2
    -- sorted
    refine ⟨.ref e, rfl, e, zs, rfl, SqL.of B3.h0.2, hzs, fun ys l pm so nl => ?_⟩
    have B4 := B3.new (o := .lst (ys.map zref)) nl
    have e4 : upd H3 l (.lst (ys.map zref)) l = some (.lst (ys.map zref)) := upd_same
    have z4 : ∀ z ∈ zs, upd H3 l (.lst (ys.map zref)) z.1 = some (.lst (z.2.map V.int)) := fun z hz => by rw [upd_ne (ne_of_none (hzs z hz) nl)]; exact hzs z hz
    generalize upd H3 l (.lst (ys.map zref)) = H4 at B4 e4 z4 ⊢
    have ecut : (ys.map fun z : Zr => z.2) = cut (mrg fam) := by
      rw [cut_mrg nd]
      refine by_one ?_ (cuts_nd nd) ?_
      · rw [← hcut]; exact pm.map _
      · exact List.pairwise_map.mpr (so.imp_of_mem fun ha hb h => lexHd (zb _ (pm.mem_iff.mp ha)).1 (zb _ (pm.mem_iff.mp hb)).1 h)
    refine ⟨.ref R, rfl, R, mrg fam, rfl, B4.h1.2, mnd, by omega, fun H5 pb qb N => ?_⟩
    have B5 := B4.same N.same
    have z5 : ∀ z ∈ zs, H5 z.1 = some (.lst (z.2.map V.int)) := fun z hz => N.same _ _ (z4 z hz)
    have dpy : Dp K H5 (.ref l) (dR (ys.map fun z : Zr => z.2)) := .lst (SqL.of (N.same _ _ e4)) (dpAllZ fun z hz => z5 z (pm.mem_iff.mp hz))
    refine ⟨dR (ys.map fun z : Zr => z.2), dR (cut (mrg fam)), dpy, dpR N.top N.rows, shapedR _, shapedR _, ?_⟩
    rw [ecut, eqvRefl]
    refine ⟨_, rfl, iteF ?_⟩
    clear B2 B3 B4
    -- the records
    refine ⟨.ref e, rfl, e, rfl, ⟨_, SqL.of B5.h0.2⟩, fun C nC => ?_⟩
    have Ce : e ≠ C := ne_of_none B5.h0.2 nC
    refine lc_list (K := K) (a := e) (xs := zs.map zref) (fun i H' => H' = upd H5 C (.lst (((zs.map fun z : Zr => hd z.2).take i).map V.int))) rfl ?_ ?_ ?_
    · rintro j H' _ rfl
      exact SqL.of (by rw [upd_ne Ce]; exact B5.h0.2)
    · rintro j x H' hx rfl
      rw [List.getElem?_map] at hx
      obtain ⟨z, hz, rfl⟩ := Option.map_eq_some_iff.mp hx
      have zm := List.mem_of_getElem? hz
      have zC : z.1 ≠ C := ne_of_none (z5 z zm) nC
      have ha : (z.2.map V.int)[0]? = some (.int (hd z.2)) := by
        cases ez : z.2 with
        | nil => exact absurd ez (zb z zm).1
        | cons m r => rfl
      refine ⟨rfl, iteT (B := upd H5 C (.lst (((zs.map fun z : Zr => hd z.2).take j).map V.int)) = upd H5 C (.lst (((zs.map fun z : Zr => hd z.2).take (j + 1)).map V.int))) ?_⟩
      refine ⟨.ref z.1, rfl, z.1, _, 0, .int (hd z.2), rfl, rfl, SqL.of (by rw [upd_ne zC]; exact z5 z zm), atI_nat (j := 0) ha, _, upd_same, ?_, ?_⟩
      · rw [List.length_map, List.length_take, List.length_map]; unfold sizeLine; omega
      · rw [upd_upd, List.take_add_one, List.getElem?_map, hz, List.map_append]; rfl
    rintro H6 rfl
    have ehd : (zs.map fun z : Zr => hd z.2).take (zs.map zref).length = zs.map fun z : Zr => hd z.2 := List.take_of_length_le (by rw [List.length_map, List.length_map]; exact Nat.le_refl _)
    rw [ehd]
    have B6 := (B5.new (o := .lst ((zs.map fun z : Zr => hd z.2).map V.int)) nC).add upd_same (B5.neD nC)
    have z6 : ∀ z ∈ zs, upd H5 C (.lst ((zs.map fun z : Zr => hd z.2).map V.int)) z.1 = some (.lst (z.2.map V.int)) := fun z hz => by rw [upd_ne (ne_of_none (z5 z hz) nC)]; exact z5 z hz
    generalize upd H5 C (.lst ((zs.map fun z : Zr => hd z.2).map V.int)) = H6 at B6 z6 ⊢
    -- the greatest of each block
    refine ⟨.ref e, rfl, e, rfl, ⟨_, SqL.of B6.h1.2⟩, fun G nG => ?_⟩
    have Ge : e ≠ G := ne_of_none B6.h1.2 nG
    refine lc_list (K := K) (a := e) (xs := zs.map zref) (fun i H' => H' = upd H6 G (.lst (((zs.map fun z : Zr => hd z.2).take i).map V.int))) rfl ?_ ?_ ?_
    · rintro j H' _ rfl
      exact SqL.of (by rw [upd_ne Ge]; exact B6.h1.2)
    · rintro j x H' hx rfl
      rw [List.getElem?_map] at hx
      obtain ⟨z, hz, rfl⟩ := Option.map_eq_some_iff.mp hx
      have zm := List.mem_of_getElem? hz
      have zG : z.1 ≠ G := ne_of_none (z6 z zm) nG
      refine ⟨rfl, iteT (B := upd H6 G (.lst (((zs.map fun z : Zr => hd z.2).take j).map V.int)) = upd H6 G (.lst (((zs.map fun z : Zr => hd z.2).take (j + 1)).map V.int))) ?_⟩
      refine ⟨.ref z.1, rfl, z.1, z.2, rfl, SqL.of (by rw [upd_ne zG]; exact z6 z zm), List.length_pos_iff.mpr (zb z zm).1, fun mx hmx hge => ?_⟩
      have emx : mx = hd z.2 := by
        have h1 := (zb z zm).2 mx hmx
        have h2 := hge (hd z.2) (hd_mem (zb z zm).1)
        omega
      rw [emx]
      refine ⟨_, upd_same, ?_, ?_⟩
      · rw [List.length_map, List.length_take, List.length_map]; unfold sizeLine; omega
      · rw [upd_upd, List.take_add_one, List.getElem?_map, hz, List.map_append]; rfl
    rintro H7 rfl
    rw [ehd]
    have B7 := B6.new (o := .lst ((zs.map fun z : Zr => hd z.2).map V.int)) nG
    have e7 : upd H6 G (.lst ((zs.map fun z : Zr => hd z.2).map V.int)) G = some (.lst ((zs.map fun z : Zr => hd z.2).map V.int)) := upd_same
    generalize upd H6 G (.lst ((zs.map fun z : Zr => hd z.2).map V.int)) = H7 at B7 e7 ⊢
    refine ⟨.ref C, rfl, dI (zs.map fun z : Zr => hd z.2), dI (zs.map fun z : Zr => hd z.2), dpI (SqL.of e7), dpI (SqL.of B7.h0.2), shaped_I _, shaped_I _, ?_⟩
    rw [eqvI]
    refine ⟨_, rfl, iteNS rfl ?_⟩
    clear B5 B6
    -- the records, sorted
    refine ⟨.ref C, rfl, C, (zs.map fun z : Zr => hd z.2), rfl, SqL.of B7.h0.2, by rw [List.length_map]; omega, fun ps c nps hc64 => ?_⟩
    have B8 := B7.new (o := SetO w ps (fun j => decide (j ∈ zs.map fun z : Zr => hd z.2)) c) nps
    refine ⟨ps, _, c, rfl, upd_same, hc64, fun ns2 l2 so2 mem2 _ nl2 => ?_⟩
    have B9 := B8.new (o := .lst (ns2.map V.int)) nl2
    have e9 : upd (upd H7 ps (SetO w ps (fun j => decide (j ∈ zs.map fun z : Zr => hd z.2)) c)) l2 (.lst (ns2.map V.int)) l2 = some (.lst (ns2.map V.int)) := upd_same
    refine ⟨.ref R, rfl, R, mrg fam, rfl, B9.h2.2, mnd, by omega, fun H10 pb2 qb2 N2 => ?_⟩
    have B10 := B9.same N2.same
    have e10 := N2.same _ _ e9
    have qb2l : qb2.length = (cut (mrg fam)).length := by
      have z := N2.rows.len
      rwa [vv_len] at z
    have cutl := (good_cut (mrg fam)).len
    refine ⟨pb2, rfl, ⟨_, SqL.of N2.top⟩, fun G2 nG2 => ?_⟩
    have G2p : pb2 ≠ G2 := ne_of_none N2.top nG2
    refine lc_list (K := K) (a := pb2) (xs := qb2.map V.ref) (fun i H' => H' = upd H10 G2 (.lst ((((cut (mrg fam)).map hd).take i).map V.int))) rfl ?_ ?_ ?_
    · rintro j H' _ rfl
      exact SqL.of (by rw [upd_ne G2p]; exact N2.top)
    · rintro j x H' hx rfl
      rw [List.getElem?_map] at hx
      obtain ⟨bq, hbq, rfl⟩ := Option.map_eq_some_iff.mp hx
      have jl := (List.getElem?_eq_some_iff.mp hbq).1
      have hb : (cut (mrg fam))[j]? = some (cut (mrg fam))[j] := List.getElem?_eq_getElem (by omega)
      have hrow := N2.rows.get j bq _ hbq (show (vv (cut (mrg fam)))[j]? = some ((cut (mrg fam))[j].map V.int) by rw [List.getElem?_map, hb]; rfl)
      have bne := (cut_mem (List.mem_of_getElem? hb)).1
      have bG : bq ≠ G2 := ne_of_none hrow nG2
      have ha : ((cut (mrg fam))[j].map V.int)[0]? = some (.int (hd (cut (mrg fam))[j])) := by
        cases ez : (cut (mrg fam))[j] with
        | nil => exact absurd ez bne
        | cons m r => rfl
      refine ⟨rfl, iteT (B := upd H10 G2 (.lst ((((cut (mrg fam)).map hd).take j).map V.int)) = upd H10 G2 (.lst ((((cut (mrg fam)).map hd).take (j + 1)).map V.int))) ?_⟩
      refine ⟨.ref bq, rfl, bq, _, 0, .int (hd (cut (mrg fam))[j]), rfl, rfl, SqL.of (by rw [upd_ne bG]; exact hrow), atI_nat (j := 0) ha, _, upd_same, ?_, ?_⟩
      · rw [List.length_map, List.length_take, List.length_map]; unfold sizeLine; omega
      · rw [upd_upd, List.take_add_one, List.getElem?_map, hb, List.map_append]; rfl
    rintro H11 rfl
    have ehd2 : ((cut (mrg fam)).map hd).take (qb2.map V.ref).length = (cut (mrg fam)).map hd := List.take_of_length_le (by rw [List.length_map, List.length_map, qb2l]; exact Nat.le_refl _)
    rw [ehd2]
    have B11 := B10.new (o := .lst (((cut (mrg fam)).map hd).map V.int)) nG2
    have e11 : upd H10 G2 (.lst (((cut (mrg fam)).map hd).map V.int)) G2 = some (.lst (((cut (mrg fam)).map hd).map V.int)) := upd_same
    have f11 : upd H10 G2 (.lst (((cut (mrg fam)).map hd).map V.int)) l2 = some (.lst (ns2.map V.int)) := by rw [upd_ne (ne_of_none e10 nG2)]; exact e10
    generalize upd H10 G2 (.lst (((cut (mrg fam)).map hd).map V.int)) = H11 at B11 e11 f11 ⊢
    have same2 : ns2 = (cut (mrg fam)).map hd := ascOne so2 (List.pairwise_map.mpr (cut_asc _)) fun k => by
      rw [mem2 k, decide_eq_true_iff, cut_mrg nd]
      have e1 : (zs.map fun z : Zr => hd z.2) = (cuts fam).map hd := by rw [← hcut, List.map_map]; rfl
      rw [e1]
      exact ((by_perm hd (cuts fam)).map hd).mem_iff.symm
    refine ⟨dI ns2, dI ((cut (mrg fam)).map hd), dpI (SqL.of f11), dpI (SqL.of e11), shaped_I _, shaped_I _, ?_⟩
    rw [eqvI]
    refine ⟨_, rfl, iteNS same2 ?_⟩
    clear B7 B8 B9 B10
    -- some queues are merged first
    have hq0 : (qs.map V.ref).length = fam.length := by rw [List.length_map]; exact B11.fa.len
    have f0 : 0 < fam.length := List.length_pos_iff.mpr ne
    obtain ⟨a9, b9, c9, D9, d9⟩ := B11.dr
    refine ⟨.ref D, rfl, .ref p, rfl, p, _, rfl, .inl (SqL.of B11.fa.top), _, _, rfl, rfl, D, _, a9, b9, c9, n, rfl, D9, d9, by omega, ?_, ?_, fun v8 a10 b10 c10 k0 k1 d10 => ?_⟩
    · rw [hq0]; omega
    · rw [hq0]; omega
    rw [hq0] at k1
    obtain ⟨j, rfl⟩ := Int.eq_ofNat_of_zero_le k0
    have hj : j ≤ fam.length := by omega
    have B12 := B11.spin d10
    generalize upd H11 D (drl a10 b10 c10) = H12 at B12 ⊢
    clear B11
    have efl : fam.flatten = (fam.take j).flatten ++ (fam.drop j).flatten := by rw [← List.flatten_append, List.take_append_drop]
    have ecu : cuts fam = cuts (fam.take j) ++ cuts (fam.drop j) := by rw [← cuts_app, List.take_append_drop]
    have ndt : (fam.take j).flatten.Nodup := by rw [efl] at nd; exact (List.nodup_append.mp nd).1
    have lt' : (fam.take j).flatten.length + (fam.drop j).flatten.length = fam.flatten.length := by rw [efl, List.length_append]
    refine ⟨.int (j : Int), rfl, _, _, rfl, rfl, _, rfl, ite2 (fun hb => ?_) (fun hb => ?_)⟩
    have hj0 : 0 < j := by
      have := of_decide_eq_true hb
      omega
    refine ⟨.ref p, rfl, _, rfl, _, rfl, p, _, rfl, SqL.of B12.fa.top, fun s1 ns1 => ?_⟩
    have B13 := B12.new (o := .lst (cutV (qs.map V.ref) none (some (j : Int)))) ns1
    have FT : FamAt (upd H12 s1 (.lst (cutV (qs.map V.ref) none (some (j : Int))))) s1 (qs.take j) (fam.take j) := by
      refine ⟨by rw [upd_same, cut_to, List.map_take], ?_⟩
      have R := B13.fa.rows.take j
      rwa [← List.map_take] at R
    generalize upd H12 s1 (.lst (cutV (qs.map V.ref) none (some (j : Int)))) = H13 at B13 FT ⊢
    refine ⟨s1, qs.take j, fam.take j, rfl, FT, (fun z => by have := congrArg List.length z; rw [List.length_take] at this; have h0 : ([] : List (List Int)).length = 0 := rfl; omega), ndt, by omega, by rw [List.length_take]; omega, B13.tb, fun H14 M ex14 t14 wM hM => ⟨(show 1 ≤ sizeLine by decide), fun f7 nf7 => ?_⟩⟩
    have B14 := B13.ext ex14 t14
    have offM : M ∉ qs := fun z => by
      obtain ⟨j5, b5, _, _, hb5⟩ := B13.fa.rows.at' z
      obtain ⟨ps, e5⟩ := wM _ hb5
      cases e5
    have B15 := B14.new (o := .lst [.ref M]) nf7
    obtain ⟨fs, hfs⟩ : ∃ fs : List Addr, fs = [M] := ⟨_, rfl⟩
    obtain ⟨rs, hrs⟩ : ∃ rs : List (List Int), rs = [mrg (fam.take j)] := ⟨_, rfl⟩
    have h7 : upd H14 f7 (.lst [.ref M]) f7 = some (.lst (fs.map V.ref)) := by rw [upd_same, hfs]; rfl
    have Rf : Rws (upd H14 f7 (.lst [.ref M])) fs (vv rs) := by
      rw [hfs, hrs]
      exact Rws.nil.cons (by rw [upd_ne (ne_of_none hM nf7)]; exact hM) (by simp)
    have off : ∀ z ∈ fs, z ∉ qs := fun z hz => by rw [hfs] at hz; rw [List.mem_singleton.mp hz]; exact offM
    have pc : (cuts (rs ++ fam.drop j)).Perm (cuts fam) := by
      rw [ecu, cuts_app, hrs]
      refine List.Perm.append_right _ ?_
      have e1 : cuts [mrg (fam.take j)] = cut (mrg (fam.take j)) := List.append_nil _
      rw [e1, cut_mrg ndt]
      exact by_perm _ _
    have pf : ((rs ++ fam.drop j).flatten).Perm fam.flatten := by
      rw [efl, List.flatten_append, hrs]
      refine List.Perm.append_right _ ?_
      have e1 : [mrg (fam.take j)].flatten = mrg (fam.take j) := by simp
      rw [e1]
      exact mrg_perm _
    have rsl : rs.length ≤ 1 := by rw [hrs]; exact Nat.le_refl _
    have nn : rs ++ fam.drop j ≠ [] := by rw [hrs]; simp
    generalize upd H14 f7 (.lst [.ref M]) = H15 at B15 h7 Rf ⊢
    clear B12 B13 B14 hfs hrs
    rotate_left
    have hj0 : j = 0 := by
      have := of_decide_eq_false (eq_false_of_ne_true hb)
      omega
    refine ⟨Nat.zero_le _, fun f7 nf7 => ?_⟩
    have B15 := B12.new (o := .lst []) nf7
    obtain ⟨fs, hfs⟩ : ∃ fs : List Addr, fs = [] := ⟨_, rfl⟩
    obtain ⟨rs, hrs⟩ : ∃ rs : List (List Int), rs = [] := ⟨_, rfl⟩
    have h7 : upd H12 f7 (.lst []) f7 = some (.lst (fs.map V.ref)) := by rw [upd_same, hfs]; rfl
    have Rf : Rws (upd H12 f7 (.lst [])) fs (vv rs) := by rw [hfs, hrs]; exact Rws.nil
    have off : ∀ z ∈ fs, z ∉ qs := fun z hz => by rw [hfs] at hz; cases hz
    have pc : (cuts (rs ++ fam.drop j)).Perm (cuts fam) := by rw [hrs, hj0]; exact List.Perm.refl _
    have pf : ((rs ++ fam.drop j).flatten).Perm fam.flatten := by rw [hrs, hj0]; exact List.Perm.refl _
    have rsl : rs.length ≤ 1 := by rw [hrs]; exact Nat.zero_le _
    have nn : rs ++ fam.drop j ≠ [] := by rw [hrs, hj0]; exact ne
    generalize upd H12 f7 (.lst []) = H15 at B15 h7 Rf ⊢
    clear B12 hfs hrs
    all_goals
      have ndr : (rs ++ fam.drop j).flatten.Nodup := pf.nodup_iff.mpr nd
      have fsl : fs.length = rs.length := by have z := Rf.len; rwa [vv_len] at z
      refine ⟨.ref f7, rfl, .ref p, rfl, _, rfl, _, rfl, p, _, rfl, SqL.of B15.fa.top, fun s2 ns2 => ?_⟩
      have B16 := B15.new (o := .lst (cutV (qs.map V.ref) (some (j : Int)) none)) ns2
      have e16 : upd H15 s2 (.lst (cutV (qs.map V.ref) (some (j : Int)) none)) s2 = some (.lst ((qs.drop j).map V.ref)) := by rw [upd_same, cutFrom, List.map_drop]
      have g16 : upd H15 s2 (.lst (cutV (qs.map V.ref) (some (j : Int)) none)) f7 = some (.lst (fs.map V.ref)) := by rw [upd_ne (ne_of_none h7 ns2)]; exact h7
      have R16 := Rf.same (sameN (o := .lst (cutV (qs.map V.ref) (some (j : Int)) none)) ns2)
      generalize upd H15 s2 (.lst (cutV (qs.map V.ref) (some (j : Int)) none)) = H16 at B16 e16 g16 R16 ⊢
      refine ⟨f7, s2, _, _, rfl, rfl, g16, e16, ?_, fun s3 ns3 => ?_⟩
      · have hql := B16.fa.len
        rw [List.length_map, List.length_map, List.length_drop]
        unfold sizeLine; omega
      have B17 := B16.new (o := .lst (fs.map V.ref ++ (qs.drop j).map V.ref)) ns3
      have FR : FamAt (upd H16 s3 (.lst (fs.map V.ref ++ (qs.drop j).map V.ref))) s3 (fs ++ qs.drop j) (rs ++ fam.drop j) := by
        refine ⟨by rw [upd_same, List.map_append], ?_⟩
        have R := (R16.same (sameN (o := .lst (fs.map V.ref ++ (qs.drop j).map V.ref)) ns3)).app (B17.fa.rows.drop j) fun z hz y => off z hz ((List.drop_sublist ..).subset y)
        have evr : vv (rs ++ fam.drop j) = vv rs ++ (vv fam).drop j := by
          show (rs ++ fam.drop j).map _ = _
          rw [List.map_append, List.map_drop]
        rw [evr]
        exact R
      generalize upd H16 s3 (.lst (fs.map V.ref ++ (qs.drop j).map V.ref)) = H17 at B17 FR ⊢
      refine ⟨s3, _, _, rfl, FR, nn, ndr, by rw [pf.length_eq]; omega, by rw [List.length_append, List.length_drop]; omega, B17.tb, fun H18 M1 ex18 t18 _ hM1 => ?_⟩
      have B18 := B17.ext ex18 t18
      refine ⟨.ref R, rfl, dI (mrg (rs ++ fam.drop j)), dI (mrg fam), dpI (SqL.of hM1), dpI (SqL.of B18.h2.2), shaped_I _, shaped_I _, ?_⟩
      rw [eqvI, decide_eq_true (mrg_eq ndr pc)]
      refine ⟨true, rfl, iteT ?_⟩
      refine ⟨.ref p, rfl, p, _, rfl, SqL.of B18.fa.top, fun s4 ns4 => ?_⟩
      have B19 := B18.new (o := .lst (qs.map V.ref).reverse) ns4
      have FV : FamAt (upd H18 s4 (.lst (qs.map V.ref).reverse)) s4 qs.reverse fam.reverse := by
        refine ⟨by rw [upd_same, List.map_reverse], ?_⟩
        have evr : vv fam.reverse = (vv fam).reverse := List.map_reverse ..
        rw [evr]
        exact B19.fa.rows.rev
      generalize upd H18 s4 (.lst (qs.map V.ref).reverse) = H19 at B19 FV ⊢
      have pv9 : fam.reverse.Perm fam := List.reverse_perm _
      have ndv : fam.reverse.flatten.Nodup := pv9.flatten.nodup_iff.mpr nd
      refine ⟨s4, _, _, rfl, FV, (fun z => ne (List.reverse_eq_nil_iff.mp z)), ndv, by rw [pv9.flatten.length_eq]; omega, by rw [List.length_reverse]; omega, B19.tb, fun H20 M2 ex20 t20 _ hM2 => ?_⟩
      have B20 := B19.ext ex20 t20
      refine ⟨.ref R, rfl, dI (mrg fam.reverse), dI (mrg fam), dpI (SqL.of hM2), dpI (SqL.of B20.h2.2), shaped_I _, shaped_I _, ?_⟩
      rw [eqvI, decide_eq_true (mrg_rows ndv pv9)]
      exact q _ ⟨B20.ex, B20.tb, B20.wD, B20.dr, B20.fa, B20.pD, B20.qD, fun x hx => B20.held x (List.mem_cons_of_mem _ (List.mem_cons_of_mem _ (List.mem_cons_of_mem _ hx)))⟩
end
end My
namespace My
open PySem PySem.Spec PyProof.Rows L2 LamX
abbrev nLaw : List Str := ["script", "k", "drum", "family", "by", "times", "other", "sizes", "queue", "number", "block"]
theorem scLaw : FnScope nLaw ["script"] (defScope sLaw) := ⟨rfl, rfl, rfl, by decide +kernel, rfl, by decide +kernel, by decide +kernel⟩
section
variable {P : Program} {w : World} {K : PySem.W.Frag} {mg : Str → Option Value} {base : Heap}
theorem mul_fine {z t : Int} (h : -(10 ^ 31) ≤ z ∧ z ≤ 10 ^ 31) (h1 : 1 ≤ t) (h2 : t ≤ 3) : CMul z t := by
  first
    | exact .inl ⟨by omega, by omega⟩
    | exact .inr ⟨by omega, by omega⟩
abbrev teAdd : TE := tOp (rI0 fun i j => .int (i + j)) (tOp (rI CMul fun i j => .int (i * j)) (tVar 9) (tVar 5)) (tVar 4)
abbrev teIn (K : PySem.W.Frag) : TE := tLc (iList K (tVar 8)) (gName 9) tYes teAdd [9]
abbrev scO : Scope := { kind := .function, names := [(".0", .local), ("queue", .local), ("by", .cell), ("times", .cell)], isGenerator := false, isCoroutine := false }
def spLaw (K : PySem.W.Frag) (T : List (Addr × Str)) : Sp := fun vs H Q _ => ∃ (a : Addr) (ns : List Int), vs = [.ref a] ∧ SqL K H a (ns.map V.int) ∧ ns.length ≤ 63 ∧ Tabs T H ∧ ∀ H', Q (.bl true) H'
set_option maxHeartbeats 0 in
theorem ok_law {T : List (Addr × Str)} {f fM fA fB fD fS fF fR : Addr} {fd fdM fdA fdB fdD fdS fdF fdR : FuncData} {k : Nat} (F : Fun K "law" "law" sLaw f fd) (X : Txt mg)
    (GM : FnOk P w K mg base CX0 k fM fdM ["family"] (spMerge T)) (gM : mg "merged" = some (.ref fM)) (kM : PySem.W.keepIn K (.ref fM) = true) (bM : Binds K fdM ["family"] [])
    (GA : FnOk P w K mg base CX0 k fA fdA ["family"] (spAssign T)) (gA : mg "assignment_of" = some (.ref fA)) (kA : PySem.W.keepIn K (.ref fA) = true) (bA : Binds K fdA ["family"] [])
    (GB : FnOk P w K mg base CX0 k fB fdB ["numbers"] spBlocks) (gB : mg "blocks_of" = some (.ref fB)) (kB : PySem.W.keepIn K (.ref fB) = true) (bB : Binds K fdB ["numbers"] [])
    (GD : FnOk P w K mg base CX0 k fD fdD ["script", "k"] (spDrum K)) (gD : mg "_law_drum" = some (.ref fD)) (kD : PySem.W.keepIn K (.ref fD) = true) (bD : Binds K fdD ["script", "k"] [])
    (GS : FnOk P w K mg base CX0 k fS fdS ["drum", "size"] spSpin) (gS : mg "_law_spin" = some (.ref fS)) (kS : PySem.W.keepIn K (.ref fS) = true) (bS : Binds K fdS ["drum", "size"] [])
    (GF : FnOk P w K mg base CX0 k fF fdF ["drum", "most"] spLFam) (gF : mg "_law_family" = some (.ref fF)) (kF : PySem.W.keepIn K (.ref fF) = true) (bF : Binds K fdF ["drum", "most"] [])
    (GR : FnOk P w K mg base CX0 k fR fdR ["drum", "family"] (spRight T)) (gR : mg "_law_right" = some (.ref fR)) (kR : PySem.W.keepIn K (.ref fR) = true) (bR : Binds K fdR ["drum", "family"] []) :
    FnG P w K mg base (k + 1) f fd ["script"] (spLaw K T) := by
  refine okG F scLaw (fun vs H Q E h => ?_) (fun cdv A outer s H vs Q E gu hr h => ?_)
  · obtain ⟨a, ns, rfl, _⟩ := h
    rfl
  · obtain ⟨a, scr, rfl, hS, hl, tb, q⟩ := h
    refine ⟨_, pss_cons (ps_for PassesOwn.never rfl (pi_range1 (by rfl) X.range (pa_cons (pe_callB (call_max2 rfl) (by rfl) X.max (by decide +kernel) (pa_cons pe_int (pa_cons (pe_callB (call_min2 rfl) (by rfl) X.min (by decide +kernel)
            (pa_cons pe_int (pa_cons (pe_op op_add (pe_callB call_len_seq (by rfl) X.len PySem.boot_len (pa_cons (pv 0) pa_nil)) pe_int) pa_nil))) pa_nil))) pa_nil)) (pg_name (i := 1) scLaw.nd rfl (.inl rfl))
        (pss_cons (ps_set (i := 2) scLaw.nd rfl (.inl rfl) (pe_call GD hr (by rfl) gD kD bD .nil pass0 (pa_cons (pv 0) (pa_cons (pv 1) pa_nil))))
        (pss_cons (ps_set (i := 3) scLaw.nd rfl (.inl rfl) (pe_call GF hr (by rfl) gF kF bF .nil pass0 (pa_cons (pv 2) (pa_cons (pe_ix ix_list (pe_lst (pa_cons pe_int (pa_cons pe_int pa_nil)))
              (pe_call GS hr (by rfl) gS kS bS .nil pass0 (pa_cons (pv 2) (pa_cons pe_int pa_nil))) (fun _ _ => rfl)) pa_nil))))
        (pss_cons (ps_if (pt_not (pt_val (pe_call GR hr (by rfl) gR kR bR .nil pass0 (pa_cons (pv 2) (pa_cons (pv 3) pa_nil))))) (pss_one (ps_ret pe_bl)) pss_nil)
        (pss_cons (ps_asg (pe_tup (pa_cons (pe_ix ix_list (pe_lst (pa_cons pe_int (pa_cons (pe_un un_neg pe_int) (pa_cons (pe_op op_pow pe_int pe_int) (pa_cons (pe_un un_neg (pe_op op_pow pe_int pe_int)) pa_nil)))))
              (pe_call GS hr (by rfl) gS kS bS .nil pass0 (pa_cons (pv 2) (pa_cons pe_int pa_nil))) (fun _ _ => rfl))
              (pa_cons (pe_op op_add pe_int (pe_call GS hr (by rfl) gS kS bS .nil pass0 (pa_cons (pv 2) (pa_cons pe_int pa_nil)))) pa_nil)))
            (pg_tup (by rfl) (pgs_cons (pg_name (i := 4) scLaw.nd rfl (.inr rfl)) (pgs_cons (pg_name (i := 5) scLaw.nd rfl (.inr rfl)) pgs_nil))))
        (pss_cons (ps_setLc (i := 6) (te := teIn K) (own := [("queue", 8)]) (g := gName 8) (by rfl) scLaw.nd rfl rfl (sw_true rfl rfl rfl (by decide +kernel))
            (pi_list (pv 3)) (blkOk_by (own := [("queue", 8)]) (N := nLaw) (sc := defScope sLaw) (by decide +kernel))
            (fun _ _ _ _ _ => pg_name (i := 8) scLaw.nd rfl (Or.inl rfl)) (fun _ _ _ _ _ => pts_nil)
            (fun _ _ _ _ _ => pe_lc (te := teAdd) (own := [("number", 9)]) (g := gName 9) (by rfl) scLaw.nd (pi_list (pv 8)) (blkOk_by (own := [("number", 9)]) (N := nLaw) (sc := scO) (by decide +kernel))
                (fun _ _ _ _ _ => pg_name (i := 9) scLaw.nd rfl (Or.inl rfl)) (fun _ _ _ _ _ => pts_nil) (fun _ _ _ _ _ => pe_op op_add (pe_op op_mul (pv 9) (pv 5)) (pv 4))))
        (pss_cons (ps_if (pt_cmpR (op_neD hr.units) (pe_call GM hr (by rfl) gM kM bM .nil pass0 (pa_cons (pv 6) pa_nil))
              (pe_lc (te := teAdd) (own := [("number", 9)]) (g := gName 9) (by rfl) scLaw.nd (pi_list (pe_call GM hr (by rfl) gM kM bM .nil pass0 (pa_cons (pv 3) pa_nil))) (blkOk_by (own := [("number", 9)]) (N := nLaw) (sc := defScope sLaw) (by decide +kernel))
                (fun _ _ _ _ _ => pg_name (i := 9) scLaw.nd rfl (Or.inl rfl)) (fun _ _ _ _ _ => pts_nil) (fun _ _ _ _ _ => pe_op op_add (pe_op op_mul (pv 9) (pv 5)) (pv 4))) (nomark _)) (pss_one (ps_ret pe_bl)) pss_nil)
        (pss_cons (ps_if (pt_cmpR (op_neD hr.units) (pe_call GA hr (by rfl) gA kA bA .nil pass0 (pa_cons (pv 6) pa_nil)) (pe_call GA hr (by rfl) gA kA bA .nil pass0 (pa_cons (pv 3) pa_nil)) (nomark _)) (pss_one (ps_ret pe_bl)) pss_nil)
        (pss_cons (ps_setLc (i := 7) (te := tCB (rLen K) (tCons (tVar 10) tNil)) (own := [("block", 10)]) (g := gName 10) (by rfl) scLaw.nd rfl rfl (sw_true rfl rfl rfl (by decide +kernel))
            (pi_list (pe_call GB hr (by rfl) gB kB bB .nil pass0 (pa_cons (pe_call GM hr (by rfl) gM kM bM .nil pass0 (pa_cons (pv 6) pa_nil)) pa_nil))) (blkOk_by (own := [("block", 10)]) (N := nLaw) (sc := defScope sLaw) (by decide +kernel))
            (fun _ _ _ _ _ => pg_name (i := 10) scLaw.nd rfl (Or.inl rfl)) (fun _ _ _ _ _ => pts_nil) (fun _ _ _ _ _ => pe_callB call_len_seq (by rfl) X.len PySem.boot_len (pa_cons (pv 10) pa_nil)))
        (pss_one (ps_if (pt_cmpR (op_neD hr.units) (pv 7) (pe_lc (te := tCB (rLen K) (tCons (tVar 10) tNil)) (own := [("block", 10)]) (g := gName 10) (by rfl) scLaw.nd
            (pi_list (pe_call GB hr (by rfl) gB kB bB .nil pass0 (pa_cons (pe_call GM hr (by rfl) gM kM bM .nil pass0 (pa_cons (pv 3) pa_nil)) pa_nil))) (blkOk_by (own := [("block", 10)]) (N := nLaw) (sc := defScope sLaw) (by decide +kernel))
            (fun _ _ _ _ _ => pg_name (i := 10) scLaw.nd rfl (Or.inl rfl)) (fun _ _ _ _ _ => pts_nil) (fun _ _ _ _ _ => pe_callB call_len_seq (by rfl) X.len PySem.boot_len (pa_cons (pv 10) pa_nil))) (nomark _)) (pss_one (ps_ret pe_bl)) pss_nil)))))))))))
      (pss_one (ps_ret pe_bl)), ?_⟩
    refine ⟨.ref a, rfl, a, _, rfl, .inl hS, _, _, rfl, rfl, _, _, rfl, _, _, rfl, _, rfl, ?_, ?_, for_range (lo := 0)
      (fun i σ H' => ∃ y1 y2 y3 y4 y5 y6 y7, σ = [some (.ref a), y1, y2, y3, y4, y5, y6, y7, none, none, none] ∧ ExtN H H' ∧ Tabs T H') ⟨none, none, none, none, none, none, none, rfl, ExtN.refl _, tb⟩ ?_ ?_⟩
    · split <;> (try split) <;> omega
    · split <;> (try split) <;> omega
    · rintro i σ H1 hi ⟨y1, y2, y3, y4, y5, y6, y7, rfl, ex1, t1⟩
      have hi8 : i ≤ 100 := by
        have z : (if (if ((scr.map V.int).length : Int) + 1 < 6 then ((scr.map V.int).length : Int) + 1 else 6) > 1 then
            (if ((scr.map V.int).length : Int) + 1 < 6 then ((scr.map V.int).length : Int) + 1 else 6) else 1 : Int) ≤ 8 := by
          split <;> (try split) <;> omega
        omega
      rw [Int.zero_add]
      refine ⟨.ref a, rfl, .int (i : Int), rfl, a, scr, i, rfl, xsq ex1 hS, hi8, fun D x y nD dr => ?_⟩
      have wD : WF H D := WF.ext ex1 (WF.of nD)
      have ex2 : ExtN H (upd H1 D (drl x y 0)) := xnw ex1 nD
      have t2 : Tabs T (upd H1 D (drl x y 0)) := tabs_new t1 nD
      have D2 : upd H1 D (drl x y 0) D = some (drl x y 0) := upd_same
      generalize upd H1 D (drl x y 0) = H2 at ex2 t2 D2 ⊢
      -- the family
      refine ⟨.ref D, rfl, (show 2 ≤ sizeLine by decide), fun l nl => ?_⟩
      have ex3 : ExtN H (upd H2 l (.lst [.int 10, .int 40])) := xnw ex2 nl
      have t3 : Tabs T (upd H2 l (.lst [.int 10, .int 40])) := tabs_new t2 nl
      have D3 : upd H2 l (.lst [.int 10, .int 40]) D = some (drl x y 0) := by rw [upd_ne (ne_of_none D2 nl)]; exact D2
      have e3 : upd H2 l (.lst [.int 10, .int 40]) l = some (.lst [.int 10, .int 40]) := upd_same
      have lD : l ≠ D := (ne_of_none D2 nl).symm
      generalize upd H2 l (.lst [.int 10, .int 40]) = H3 at ex3 t3 D3 e3 ⊢
      refine ⟨.ref D, rfl, D, 2, x, y, 0, 0, rfl, D3, dr, by omega, by decide, by decide, fun v a4 b4 c4 h0 h1 d4 => ?_⟩
      obtain ⟨m0, hm0, hb0, hb1⟩ := pick2 10 40 h0 h1 (fun z => 0 ≤ z ∧ z ≤ 40) (by decide) (by decide)
      have ex4 : ExtN H (upd H3 D (drl a4 b4 c4)) := xwr ex3 wD
      have t4 : Tabs T (upd H3 D (drl a4 b4 c4)) := tabs_write t3 D3
      have D4 : upd H3 D (drl a4 b4 c4) D = some (drl a4 b4 c4) := upd_same
      refine ⟨l, _, _, _, rfl, rfl, SqL.of (by rw [upd_ne lD]; exact e3), hm0, ?_⟩
      generalize upd H3 D (drl a4 b4 c4) = H4 at ex4 t4 D4 ⊢
      obtain ⟨most, rfl⟩ := Int.eq_ofNat_of_zero_le hb0
      refine ⟨D, most, a4, b4, c4, 1, rfl, by omega, D4, d4, by omega, fun H6 p qs fam FS6 ne hf8 nd hfl sm => ?_⟩
      have B6 : Bx H H6 T D 1000 p qs fam [] := by
        obtain ⟨a8, b8, c8, D8, d8⟩ := FS6.ds.dr
        exact ⟨bxBut ex4 wD FS6.ds.but, tabs_but t4 FS6.ds.but D4, wD, ⟨a8, b8, c8, D8, d8.up (by omega)⟩, ⟨FS6.top, FS6.rows⟩, FS6.ds.ne FS6.fp, fun z hz => FS6.ds.ne (FS6.fresh z hz), fun x hx => nomatch hx⟩
      clear FS6
      refine ⟨.ref D, rfl, .ref p, rfl, H, D, 1000, p, qs, fam, [], rfl, B6, by omega, ne, nd, by omega, by omega, fun H7 B7 => ⟨true, rfl, iteF ?_⟩⟩
      clear B6
      -- by, times
      refine ⟨5, rfl, 10, 9, rfl, rfl, ⟨by decide, by decide, by decide⟩, 10, 12, rfl, rfl, ⟨by decide, by decide, by decide⟩, _, rfl, (show 4 ≤ sizeLine by decide), fun l8 nl8 => ?_⟩
      have B8 := B7.new (o := .lst [.int 1, .int (-5), .int (10 ^ (9 : Int).toNat), .int (-(10 ^ (12 : Int).toNat))]) nl8
      have e8 : upd H7 l8 (.lst [.int 1, .int (-5), .int (10 ^ (9 : Int).toNat), .int (-(10 ^ (12 : Int).toNat))]) l8 = some (.lst [.int 1, .int (-5), .int (10 ^ (9 : Int).toNat), .int (-(10 ^ (12 : Int).toNat))]) := upd_same
      have l8D := B7.neD nl8
      obtain ⟨a9, b9, c9, D9, d9⟩ := B8.dr
      refine ⟨.ref D, rfl, D, 4, a9, b9, c9, 1000 + 1, rfl, D9, d9, by omega, by decide, by decide, fun v2 a10 b10 c10 h2 h3 d10 => ?_⟩
      obtain ⟨bb, hbb, bb0, bb1⟩ := pick4 1 (-5) (10 ^ (9 : Int).toNat) (-(10 ^ (12 : Int).toNat)) h2 h3 (fun z => -(10 ^ 13) ≤ z ∧ z ≤ 10 ^ 13) (by decide) (by decide) (by decide) (by decide)
      have B9 := B8.spin d10
      refine ⟨l8, _, _, _, rfl, rfl, SqL.of (by rw [upd_ne l8D]; exact e8), hbb, ?_⟩
      generalize upd (upd H7 l8 (.lst [.int 1, .int (-5), .int (10 ^ (9 : Int).toNat), .int (-(10 ^ (12 : Int).toNat))])) D (drl a10 b10 c10) = H9 at B9 ⊢
      obtain ⟨a11, b11, c11, D11, d11⟩ := B9.dr
      refine ⟨.ref D, rfl, D, 3, a11, b11, c11, 1000 + 1 + 1, rfl, D11, d11, by omega, by decide, by decide, fun v3 a12 b12 c12 h4 h5 d12 => ?_⟩
      have B10 := B9.spin d12
      generalize upd H9 D (drl a12 b12 c12) = H10 at B10 ⊢
      refine ⟨_, _, rfl, rfl, (show 2 ≤ sizeLine by decide), fun tp ntp => ?_⟩
      have B11 := B10.new (o := .tup [.int bb, .int (1 + v3)]) ntp
      refine ⟨tp, _, rfl, .inl (.inl upd_same), rfl, _, _, rfl, _, _, rfl, rfl, ?_⟩
      generalize upd H10 tp (.tup [.int bb, .int (1 + v3)]) = H11 at B11 ⊢
      clear B7 B8 B9 B10
      have MG : Mono fun z => z * (1 + v3) + bb := mono_lin (by omega)
      obtain ⟨g, hg⟩ : ∃ g : Int → Int, g = fun z => z * (1 + v3) + bb := ⟨_, rfl⟩
      rw [← hg] at MG
      have gv : ∀ z, z * (1 + v3) + bb = g z := fun z => by rw [hg]
      -- moved and multiplied
      refine ⟨.ref p, rfl, p, rfl, ⟨_, SqL.of B11.fa.top⟩, fun O nO => ?_⟩
      have Op : p ≠ O := ne_of_none B11.fa.top nO
      have Oq : O ∉ qs := fun z => B11.fa.rows.there z nO
      have OD : O ≠ D := B11.neD nO
      have OW : WF H O := B11.wf nO
      refine lc_list (K := K) (a := p) (xs := qs.map V.ref) (fun i H' => ∃ os : List Addr, Bx H H' T D (1000 + 1 + 1 + 1) p qs fam [] ∧ H' O = some (.lst (os.map V.ref)) ∧ O ∉ os ∧ Rws H' os (vv (mv g (fam.take i))))
        ⟨[], B11.new nO, upd_same, by simp, Rws.nil⟩ ?_ ?_ ?_
      · rintro j H' _ ⟨_, B, _⟩
        exact SqL.of B.fa.top
      · rintro j x H' hx ⟨os, B, hO, Oo, R⟩
        rw [List.getElem?_map] at hx
        obtain ⟨qq, hq, rfl⟩ := Option.map_eq_some_iff.mp hx
        obtain ⟨ff, hf, hrow⟩ := B.fa.row hq
        have ffm := List.mem_of_getElem? hf
        have fl := flat_mem_len ffm
        refine ⟨rfl, iteT (B := ∃ os : List Addr, Bx H H' T D (1000 + 1 + 1 + 1) p qs fam [] ∧ H' O = some (.lst (os.map V.ref)) ∧ O ∉ os ∧ Rws H' os (vv (mv g (fam.take (j + 1))))) ?_⟩
        refine ⟨.ref qq, rfl, qq, rfl, ⟨_, SqL.of hrow⟩, fun C nC => ?_⟩
        have Cq : qq ≠ C := ne_of_none hrow nC
        refine lc_list (K := K) (a := qq) (xs := ff.map V.int) (fun i H'' => H'' = upd H' C (.lst (((ff.map g).take i).map V.int))) rfl ?_ ?_ ?_
        · rintro i' H'' _ rfl
          exact SqL.of (by rw [upd_ne Cq]; exact hrow)
        · rintro i' x H'' hx rfl
          rw [List.getElem?_map] at hx
          obtain ⟨z, hz, rfl⟩ := Option.map_eq_some_iff.mp hx
          have zs := sm z (List.mem_flatten.mpr ⟨ff, ffm, List.mem_of_getElem? hz⟩)
          refine ⟨rfl, iteT (B := upd H' C (.lst (((ff.map g).take i').map V.int)) = upd H' C (.lst (((ff.map g).take (i' + 1)).map V.int))) ?_⟩
          refine ⟨.int z, rfl, .int (1 + v3), rfl, _, _, rfl, rfl, mul_fine zs (by omega) (by omega), .int bb, rfl, _, _, rfl, rfl, _, upd_same, ?_, ?_⟩
          · rw [List.length_map, List.length_take, List.length_map]; unfold sizeLine; omega
          · rw [upd_upd, List.take_add_one, List.getElem?_map, hz, List.map_append, hg]; rfl
        rintro H'' rfl
        have efl : (ff.map g).take (ff.map V.int).length = ff.map g := List.take_of_length_le (by rw [List.length_map, List.length_map]; exact Nat.le_refl _)
        rw [efl]
        have B2 := B.new (o := .lst ((ff.map g).map V.int)) nC
        have OC : O ≠ C := ne_of_none hO nC
        have hO2 : upd H' C (.lst ((ff.map g).map V.int)) O = some (.lst (os.map V.ref)) := by rw [upd_ne OC]; exact hO
        have R2 := R.push (b := (ff.map g).map V.int) nC
        have ol := R.len
        rw [vv_len] at ol
        have ol2 : (mv g (fam.take j)).length ≤ 8 := by show ((fam.take j).map _).length ≤ 8; rw [List.length_map, List.length_take]; omega
        have Oo2 : O ∉ os ++ [C] := fun z => by
          rcases List.mem_append.mp z with w | w
          · exact Oo w
          · exact OC (List.mem_singleton.mp w)
        refine ⟨_, hO2, by rw [List.length_map]; unfold sizeLine; omega, os ++ [C], B2.put OW hO2 Op Oq OD (fun x hx => nomatch hx), ?_, Oo2, ?_⟩
        · rw [upd_same, List.map_append]; rfl
        · have ev : vv (mv g (fam.take (j + 1))) = vv (mv g (fam.take j)) ++ [(ff.map g).map V.int] := by
            rw [List.take_add_one, hf]
            show ((fam.take j ++ [ff]).map (List.map g)).map _ = _
            rw [List.map_append, List.map_append]
            rfl
          rw [ev]
          exact R2.off Oo2
      rintro H12 ⟨os, B12, hO, _, RO⟩
      have etk : fam.take (qs.map V.ref).length = fam := List.take_of_length_le (by rw [List.length_map, B12.fa.len]; exact Nat.le_refl _)
      rw [etk] at RO
      have FO : FamAt H12 O os (mv g fam) := ⟨hO, RO⟩
      have neO : mv g fam ≠ [] := fun z => ne (List.map_eq_nil_iff.mp z)
      have ndO := mv_nd MG nd
      have lO : (mv g fam).flatten.length = fam.flatten.length := by rw [mv_flat, List.length_map]
      have lO2 : (mv g fam).length = fam.length := List.length_map ..
      clear B11 nO
      -- merged
      refine ⟨.ref O, rfl, O, os, _, rfl, FO, neO, ndO, by omega, by omega, B12.tb, fun H13 M1 ex13 t13 _ hM1 => ?_⟩
      have B13 := B12.ext ex13 t13
      have FO13 := FO.ext ex13
      refine ⟨.ref p, rfl, p, qs, fam, rfl, B13.fa, ne, nd, by omega, by omega, B13.tb, fun H14 M2 ex14 t14 _ hM2 => ?_⟩
      have B14 := B13.ext ex14 t14
      have FO14 := FO13.ext ex14
      have hM14 := xlst ex14 hM1
      have mlen : (mrg fam).length ≤ 40 := by rw [mrg_len]; omega
      refine ⟨M2, rfl, ⟨_, SqL.of hM2⟩, fun C nC => ?_⟩
      have C2 : M2 ≠ C := ne_of_none hM2 nC
      refine lc_list (K := K) (a := M2) (xs := (mrg fam).map V.int) (fun i H'' => H'' = upd H14 C (.lst ((((mrg fam).map g).take i).map V.int))) rfl ?_ ?_ ?_
      · rintro i' H'' _ rfl
        exact SqL.of (by rw [upd_ne C2]; exact hM2)
      · rintro i' x H'' hx rfl
        rw [List.getElem?_map] at hx
        obtain ⟨z, hz, rfl⟩ := Option.map_eq_some_iff.mp hx
        have zs := sm z ((mrg_perm fam).mem_iff.mp (List.mem_of_getElem? hz))
        refine ⟨rfl, iteT (B := upd H14 C (.lst ((((mrg fam).map g).take i').map V.int)) = upd H14 C (.lst ((((mrg fam).map g).take (i' + 1)).map V.int))) ?_⟩
        refine ⟨.int z, rfl, .int (1 + v3), rfl, _, _, rfl, rfl, mul_fine zs (by omega) (by omega), .int bb, rfl, _, _, rfl, rfl, _, upd_same, ?_, ?_⟩
        · rw [List.length_map, List.length_take, List.length_map]; unfold sizeLine; omega
        · rw [upd_upd, List.take_add_one, List.getElem?_map, hz, List.map_append, hg]; rfl
      rintro H15 rfl
      have efl : ((mrg fam).map g).take ((mrg fam).map V.int).length = (mrg fam).map g := List.take_of_length_le (by rw [List.length_map, List.length_map]; exact Nat.le_refl _)
      rw [efl]
      have B15 := B14.new (o := .lst (((mrg fam).map g).map V.int)) nC
      have FO15 := FO14.ext (xsm (sameN (o := .lst (((mrg fam).map g).map V.int)) nC))
      have e15 : upd H14 C (.lst (((mrg fam).map g).map V.int)) C = some (.lst (((mrg fam).map g).map V.int)) := upd_same
      have f15 : upd H14 C (.lst (((mrg fam).map g).map V.int)) M1 = some (.lst ((mrg (mv g fam)).map V.int)) := by rw [upd_ne (ne_of_none hM14 nC)]; exact hM14
      generalize upd H14 C (.lst (((mrg fam).map g).map V.int)) = H15 at B15 FO15 e15 f15 ⊢
      refine ⟨dI (mrg (mv g fam)), dI ((mrg fam).map g), dpI (SqL.of f15), dpI (SqL.of e15), shaped_I _, shaped_I _, ?_⟩
      rw [eqvI]
      refine ⟨_, rfl, iteNS (mv_mrg MG nd) ?_⟩
      clear B12 B13 B14 FO FO13 FO14
      -- the assignments
      refine ⟨.ref O, rfl, O, os, _, rfl, FO15, neO, ndO, by omega, by omega, B15.tb, fun H16 A1 ex16 t16 _ hA1 => ?_⟩
      have B16 := B15.ext ex16 t16
      have FO16 := FO15.ext ex16
      refine ⟨.ref p, rfl, p, qs, fam, rfl, B16.fa, ne, nd, by omega, by omega, B16.tb, fun H17 A2 ex17 t17 _ hA2 => ?_⟩
      have B17 := B16.ext ex17 t17
      have FO17 := FO16.ext ex17
      refine ⟨dI (asg (mv g fam)), dI (asg fam), dpI (SqL.of (xlst ex17 hA1)), dpI (SqL.of hA2), shaped_I _, shaped_I _, ?_⟩
      rw [eqvI]
      refine ⟨_, rfl, iteNS (mv_asg MG nd) ?_⟩
      clear B15 B16 FO15 FO16
      -- the sizes
      refine ⟨.ref O, rfl, O, os, _, rfl, FO17, neO, ndO, by omega, by omega, B17.tb, fun H18 M3 ex18 t18 _ hM3 => ?_⟩
      have B18 := B17.ext ex18 t18
      have mlO : (mrg (mv g fam)).length ≤ 40 := by rw [mrg_len]; omega
      refine ⟨M3, mrg (mv g fam), rfl, hM3, mrg_nd ndO, by omega, fun H19 pb qb N => ?_⟩
      have B19 := B18.same N.same
      have qbl : qb.length = (cut (mrg (mv g fam))).length := by
        have z := N.rows.len
        rwa [vv_len] at z
      have cl := (good_cut (mrg (mv g fam))).len
      refine ⟨pb, rfl, ⟨_, SqL.of N.top⟩, fun S nS => ?_⟩
      have pS : pb ≠ S := ne_of_none N.top nS
      refine lc_list (K := K) (a := pb) (xs := qb.map V.ref) (fun i H'' => H'' = upd H19 S (.lst ((((cut (mrg (mv g fam))).map fun b => (b.length : Int)).take i).map V.int))) rfl ?_ ?_ ?_
      · rintro i' H'' _ rfl
        exact SqL.of (by rw [upd_ne pS]; exact N.top)
      · rintro i' x H'' hx rfl
        rw [List.getElem?_map] at hx
        obtain ⟨bq, hbq, rfl⟩ := Option.map_eq_some_iff.mp hx
        have jl := (List.getElem?_eq_some_iff.mp hbq).1
        have hb : (cut (mrg (mv g fam)))[i']? = some (cut (mrg (mv g fam)))[i'] := List.getElem?_eq_getElem (by omega)
        have hrow := N.rows.get i' bq _ hbq (show (vv (cut (mrg (mv g fam))))[i']? = some ((cut (mrg (mv g fam)))[i'].map V.int) by rw [List.getElem?_map, hb]; rfl)
        have bS : bq ≠ S := ne_of_none hrow nS
        refine ⟨rfl, iteT (B := upd H19 S (.lst ((((cut (mrg (mv g fam))).map fun b => (b.length : Int)).take i').map V.int)) = upd H19 S (.lst ((((cut (mrg (mv g fam))).map fun b => (b.length : Int)).take (i' + 1)).map V.int))) ?_⟩
        refine ⟨.ref bq, rfl, bq, _, rfl, .inl (SqL.of (by rw [upd_ne bS]; exact hrow)), _, upd_same, ?_, ?_⟩
        · rw [List.length_map, List.length_take, List.length_map]; unfold sizeLine; omega
        · rw [upd_upd, List.take_add_one, List.getElem?_map, hb, List.map_append, List.length_map]; rfl
      rintro H20 rfl
      have esz : ((cut (mrg (mv g fam))).map fun b => (b.length : Int)).take (qb.map V.ref).length = (cut (mrg (mv g fam))).map fun b => (b.length : Int) := List.take_of_length_le (by rw [List.length_map, List.length_map, qbl]; exact Nat.le_refl _)
      rw [esz]
      have B20 := (B19.new (o := .lst (((cut (mrg (mv g fam))).map fun b => (b.length : Int)).map V.int)) nS).add upd_same (B19.neD nS)
      generalize upd H19 S (.lst (((cut (mrg (mv g fam))).map fun b => (b.length : Int)).map V.int)) = H20 at B20 ⊢
      clear B17 B18 B19 N
      -- the sizes of the first family
      refine ⟨.ref S, rfl, .ref p, rfl, p, qs, fam, rfl, B20.fa, ne, nd, by omega, by omega, B20.tb, fun H21 M4 ex21 t21 _ hM4 => ?_⟩
      have B21 := B20.ext ex21 t21
      refine ⟨M4, mrg fam, rfl, hM4, mrg_nd nd, by omega, fun H22 pb2 qb2 N2 => ?_⟩
      have B22 := B21.same N2.same
      have qbl2 : qb2.length = (cut (mrg fam)).length := by
        have z := N2.rows.len
        rwa [vv_len] at z
      have cl2 := (good_cut (mrg fam)).len
      refine ⟨pb2, rfl, ⟨_, SqL.of N2.top⟩, fun S2 nS2 => ?_⟩
      have pS2 : pb2 ≠ S2 := ne_of_none N2.top nS2
      refine lc_list (K := K) (a := pb2) (xs := qb2.map V.ref) (fun i H'' => H'' = upd H22 S2 (.lst ((((cut (mrg fam)).map fun b => (b.length : Int)).take i).map V.int))) rfl ?_ ?_ ?_
      · rintro i' H'' _ rfl
        exact SqL.of (by rw [upd_ne pS2]; exact N2.top)
      · rintro i' x H'' hx rfl
        rw [List.getElem?_map] at hx
        obtain ⟨bq, hbq, rfl⟩ := Option.map_eq_some_iff.mp hx
        have jl := (List.getElem?_eq_some_iff.mp hbq).1
        have hb : (cut (mrg fam))[i']? = some (cut (mrg fam))[i'] := List.getElem?_eq_getElem (by omega)
        have hrow := N2.rows.get i' bq _ hbq (show (vv (cut (mrg fam)))[i']? = some ((cut (mrg fam))[i'].map V.int) by rw [List.getElem?_map, hb]; rfl)
        have bS : bq ≠ S2 := ne_of_none hrow nS2
        refine ⟨rfl, iteT (B := upd H22 S2 (.lst ((((cut (mrg fam)).map fun b => (b.length : Int)).take i').map V.int)) = upd H22 S2 (.lst ((((cut (mrg fam)).map fun b => (b.length : Int)).take (i' + 1)).map V.int))) ?_⟩
        refine ⟨.ref bq, rfl, bq, _, rfl, .inl (SqL.of (by rw [upd_ne bS]; exact hrow)), _, upd_same, ?_, ?_⟩
        · rw [List.length_map, List.length_take, List.length_map]; unfold sizeLine; omega
        · rw [upd_upd, List.take_add_one, List.getElem?_map, hb, List.map_append, List.length_map]; rfl
      rintro H23 rfl
      have esz2 : ((cut (mrg fam)).map fun b => (b.length : Int)).take (qb2.map V.ref).length = (cut (mrg fam)).map fun b => (b.length : Int) := List.take_of_length_le (by rw [List.length_map, List.length_map, qbl2]; exact Nat.le_refl _)
      rw [esz2]
      have B23 := (B22.new (o := .lst (((cut (mrg fam)).map fun b => (b.length : Int)).map V.int)) nS2).add upd_same (B22.neD nS2)
      generalize upd H22 S2 (.lst (((cut (mrg fam)).map fun b => (b.length : Int)).map V.int)) = H23 at B23 ⊢
      have fin : ((cut (mrg (mv g fam))).map fun b => (b.length : Int)) = (cut (mrg fam)).map fun b => (b.length : Int) := by
        rw [mv_mrg MG nd, cutMap MG, List.map_map]
        refine List.map_congr_left fun b _ => ?_
        show ((b.map g).length : Int) = b.length
        rw [List.length_map]
      refine ⟨dI ((cut (mrg (mv g fam))).map fun b => (b.length : Int)), dI ((cut (mrg fam)).map fun b => (b.length : Int)), dpI (SqL.of B23.h1.2), dpI (SqL.of B23.h0.2), shaped_I _, shaped_I _, ?_⟩
      rw [eqvI]
      refine ⟨_, rfl, iteNS fin ?_⟩
      exact ⟨_, _, _, _, _, _, _, rfl, B23.ex, B23.tb⟩
    · rintro σ H1 ⟨y1, y2, y3, y4, y5, y6, y7, rfl, ex1, t1⟩
      exact q _
end
end My
namespace My
open PySem PySem.Spec PyProof.Rows L2 LamX
/-! what the top has written, read by name -/
theorem all_in {l : PySem.W.OpenLaw} {w : World} {K : PySem.W.Frag} {h : Heap} {mg : Str → Option Value} {fa f1 f2 f3 f4 f5 f6 f7 f8 f9 f10 f11 f12 f13 f14 f15 f16 f17 : Addr}
    (X : K.In h) (G : h.Ns mainGlobals mg) (hfa : mg "law" = some (.ref fa))
    {od1 an1 od2 an2 od3 an3 od4 an4 od5 an5 od6 an6 od7 an7 od8 an8 od9 an9 od10 an10 od11 an11 od12 an12 od13 an13 od14 an14 od15 an15 od16 an16 od17 an17 : Option Addr}
    {sl1 sl2 sl3 sl4 sl5 sl6 sl7 sl8 sl9 sl10 sl11 sl12 sl13 sl14 sl15 sl16 sl17 : Array (Option Value)}
    {oc1 kV1 dc1 pm1 ct1 cd1 oc2 kV2 dc2 pm2 ct2 cd2 oc3 kV3 dc3 pm3 ct3 cd3 oc4 kV4 dc4 pm4 ct4 cd4 oc5 kV5 dc5 pm5 ct5 cd5 oc6 kV6 dc6 pm6 ct6 cd6 oc7 kV7 dc7 pm7 ct7 oc8 kV8 dc8 pm8 ct8 cd8 oc9 kV9 dc9 pm9 ct9 cd9 oc10 kV10 dc10 pm10 ct10 cd10 oc11 kV11 dc11 pm11 ct11 cd11 oc12 kV12 dc12 pm12 ct12 cd12 oc13 kV13 dc13 pm13 ct13 cd13 oc14 kV14 dc14 pm14 ct14 cd14 oc15 kV15 dc15 pm15 ct15 cd15 oc16 kV16 dc16 pm16 ct16 cd16 oc17 kV17 dc17 pm17 ct17 cd17 : Value}
    {cc7 tt7 : Addr} {ec7 : Value} {dd7 : Option Addr} {vs7 : Array Value} {sc7 : Array (Option Value)}
    (tab7 : TabOf K mg h "placed_blocks")
    (a1 : PySem.W.nsIn K mainGlobals "is_integer" = some (some (.ref f1)))
    (l1 : K.lookup f1 = some ⟨oc1, od1, .func (PySem.W.fnOf "is_integer" "is_integer" (defArgs sInt) (defBody sInt) (defScope sInt) .none kV1 dc1 pm1 an1 cd1 ct1), sl1⟩)
    (c1 : PySem.W.codeIn K cd1 "is_integer" = true) (k1 : PySem.W.keepIn K (.ref f1) = true)
    (a2 : PySem.W.nsIn K mainGlobals "is_numbers" = some (some (.ref f2)))
    (l2 : K.lookup f2 = some ⟨oc2, od2, .func (PySem.W.fnOf "is_numbers" "is_numbers" (defArgs sNums) (defBody sNums) (defScope sNums) .none kV2 dc2 pm2 an2 cd2 ct2), sl2⟩)
    (c2 : PySem.W.codeIn K cd2 "is_numbers" = true) (k2 : PySem.W.keepIn K (.ref f2) = true)
    (a3 : PySem.W.nsIn K mainGlobals "is_family" = some (some (.ref f3)))
    (l3 : K.lookup f3 = some ⟨oc3, od3, .func (PySem.W.fnOf "is_family" "is_family" (defArgs sFam) (defBody sFam) (defScope sFam) .none kV3 dc3 pm3 an3 cd3 ct3), sl3⟩)
    (c3 : PySem.W.codeIn K cd3 "is_family" = true) (k3 : PySem.W.keepIn K (.ref f3) = true)
    (a4 : PySem.W.nsIn K mainGlobals "require_numbers" = some (some (.ref f4)))
    (l4 : K.lookup f4 = some ⟨oc4, od4, .func (PySem.W.fnOf "require_numbers" "require_numbers" (defArgs sReq) (defBody sReq) (defScope sReq) .none kV4 dc4 pm4 an4 cd4 ct4), sl4⟩)
    (c4 : PySem.W.codeIn K cd4 "require_numbers" = true) (k4 : PySem.W.keepIn K (.ref f4) = true)
    (a5 : PySem.W.nsIn K mainGlobals "require_family" = some (some (.ref f5)))
    (l5 : K.lookup f5 = some ⟨oc5, od5, .func (PySem.W.fnOf "require_family" "require_family" (defArgs sReqF) (defBody sReqF) (defScope sReqF) .none kV5 dc5 pm5 an5 cd5 ct5), sl5⟩)
    (c5 : PySem.W.codeIn K cd5 "require_family" = true) (k5 : PySem.W.keepIn K (.ref f5) = true)
    (a6 : PySem.W.nsIn K mainGlobals "split_blocks" = some (some (.ref f6)))
    (l6 : K.lookup f6 = some ⟨oc6, od6, .func (PySem.W.fnOf "split_blocks" "split_blocks" (defArgs sSplit) (defBody sSplit) (defScope sSplit) .none kV6 dc6 pm6 an6 cd6 ct6), sl6⟩)
    (c6 : PySem.W.codeIn K cd6 "split_blocks" = true) (k6 : PySem.W.keepIn K (.ref f6) = true)
    (a7 : PySem.W.nsIn K mainGlobals "placed_blocks" = some (some (.ref f7)))
    (l7 : K.lookup f7 = some ⟨oc7, od7, .func (PySem.W.fnOf "placed_blocks" "placed_blocks" (defArgs sPlaced) (defBody sPlaced) (defScope sPlaced) .none kV7 dc7 pm7 an7 (.ref cc7) ct7), sl7⟩)
    (c7 : PySem.W.codeIn K (.ref cc7) "placed_blocks" = true) (k7 : PySem.W.keepIn K (.ref f7) = true)
    (lc7 : K.lookup cc7 = some ⟨ec7, dd7, .fields vs7, sc7⟩) (v7 : vs7[11]? = some (.ref tt7)) (nt7 : K.lookup tt7 = none)
    (a8 : PySem.W.nsIn K mainGlobals "merge_queues" = some (some (.ref f8)))
    (l8 : K.lookup f8 = some ⟨oc8, od8, .func (PySem.W.fnOf "merge_queues" "merge_queues" (defArgs sMergeQ) (defBody sMergeQ) (defScope sMergeQ) .none kV8 dc8 pm8 an8 cd8 ct8), sl8⟩)
    (c8 : PySem.W.codeIn K cd8 "merge_queues" = true) (k8 : PySem.W.keepIn K (.ref f8) = true)
    (a9 : PySem.W.nsIn K mainGlobals "blocks_of" = some (some (.ref f9)))
    (l9 : K.lookup f9 = some ⟨oc9, od9, .func (PySem.W.fnOf "blocks_of" "blocks_of" (defArgs sBlocks) (defBody sBlocks) (defScope sBlocks) .none kV9 dc9 pm9 an9 cd9 ct9), sl9⟩)
    (c9 : PySem.W.codeIn K cd9 "blocks_of" = true) (k9 : PySem.W.keepIn K (.ref f9) = true)
    (a10 : PySem.W.nsIn K mainGlobals "merged" = some (some (.ref f10)))
    (l10 : K.lookup f10 = some ⟨oc10, od10, .func (PySem.W.fnOf "merged" "merged" (defArgs sMerged) (defBody sMerged) (defScope sMerged) .none kV10 dc10 pm10 an10 cd10 ct10), sl10⟩)
    (c10 : PySem.W.codeIn K cd10 "merged" = true) (k10 : PySem.W.keepIn K (.ref f10) = true)
    (a11 : PySem.W.nsIn K mainGlobals "assignment_of" = some (some (.ref f11)))
    (l11 : K.lookup f11 = some ⟨oc11, od11, .func (PySem.W.fnOf "assignment_of" "assignment_of" (defArgs sAssign) (defBody sAssign) (defScope sAssign) .none kV11 dc11 pm11 an11 cd11 ct11), sl11⟩)
    (c11 : PySem.W.codeIn K cd11 "assignment_of" = true) (k11 : PySem.W.keepIn K (.ref f11) = true)
    (a12 : PySem.W.nsIn K mainGlobals "_law_drum" = some (some (.ref f12)))
    (l12 : K.lookup f12 = some ⟨oc12, od12, .func (PySem.W.fnOf "_law_drum" "_law_drum" (defArgs sDrum) (defBody sDrum) (defScope sDrum) .none kV12 dc12 pm12 an12 cd12 ct12), sl12⟩)
    (c12 : PySem.W.codeIn K cd12 "_law_drum" = true) (k12 : PySem.W.keepIn K (.ref f12) = true)
    (a13 : PySem.W.nsIn K mainGlobals "_law_spin" = some (some (.ref f13)))
    (l13 : K.lookup f13 = some ⟨oc13, od13, .func (PySem.W.fnOf "_law_spin" "_law_spin" (defArgs sSpin) (defBody sSpin) (defScope sSpin) .none kV13 dc13 pm13 an13 cd13 ct13), sl13⟩)
    (c13 : PySem.W.codeIn K cd13 "_law_spin" = true) (k13 : PySem.W.keepIn K (.ref f13) = true)
    (a14 : PySem.W.nsIn K mainGlobals "_law_numbers" = some (some (.ref f14)))
    (l14 : K.lookup f14 = some ⟨oc14, od14, .func (PySem.W.fnOf "_law_numbers" "_law_numbers" (defArgs sNumbers) (defBody sNumbers) (defScope sNumbers) .none kV14 dc14 pm14 an14 cd14 ct14), sl14⟩)
    (c14 : PySem.W.codeIn K cd14 "_law_numbers" = true) (k14 : PySem.W.keepIn K (.ref f14) = true)
    (a15 : PySem.W.nsIn K mainGlobals "_law_family" = some (some (.ref f15)))
    (l15 : K.lookup f15 = some ⟨oc15, od15, .func (PySem.W.fnOf "_law_family" "_law_family" (defArgs sLFam) (defBody sLFam) (defScope sLFam) .none kV15 dc15 pm15 an15 cd15 ct15), sl15⟩)
    (c15 : PySem.W.codeIn K cd15 "_law_family" = true) (k15 : PySem.W.keepIn K (.ref f15) = true)
    (a16 : PySem.W.nsIn K mainGlobals "_law_right" = some (some (.ref f16)))
    (l16 : K.lookup f16 = some ⟨oc16, od16, .func (PySem.W.fnOf "_law_right" "_law_right" (defArgs sRight) (defBody sRight) (defScope sRight) .none kV16 dc16 pm16 an16 cd16 ct16), sl16⟩)
    (c16 : PySem.W.codeIn K cd16 "_law_right" = true) (k16 : PySem.W.keepIn K (.ref f16) = true)
    (a17 : PySem.W.nsIn K mainGlobals "law" = some (some (.ref f17)))
    (l17 : K.lookup f17 = some ⟨oc17, od17, .func (PySem.W.fnOf "law" "law" (defArgs sLaw) (defBody sLaw) (defScope sLaw) .none kV17 dc17 pm17 an17 cd17 ct17), sl17⟩)
    (c17 : PySem.W.codeIn K cd17 "law" = true) (k17 : PySem.W.keepIn K (.ref f17) = true)
    (z1 : PySem.W.nsIn K mainGlobals "isinstance" = some none)
    (z2 : PySem.W.nsIn K mainGlobals "int" = some none)
    (z3 : PySem.W.nsIn K mainGlobals "bool" = some none)
    (z4 : PySem.W.nsIn K mainGlobals "list" = some none)
    (z5 : PySem.W.nsIn K mainGlobals "all" = some none)
    (z6 : PySem.W.nsIn K mainGlobals "len" = some none)
    (z7 : PySem.W.nsIn K mainGlobals "set" = some none)
    (z8 : PySem.W.nsIn K mainGlobals "max" = some none)
    (z9 : PySem.W.nsIn K mainGlobals "min" = some none)
    (z10 : PySem.W.nsIn K mainGlobals "range" = some none)
    (z11 : PySem.W.nsIn K mainGlobals "enumerate" = some none)
    (z12 : PySem.W.nsIn K mainGlobals "repr" = some none)
    (z13 : PySem.W.nsIn K mainGlobals "sorted" = some none)
    (z14 : PySem.W.nsIn K mainGlobals "tuple" = some none)
    (z15 : PySem.W.nsIn K mainGlobals "zip" = some none)
    (z16 : PySem.W.nsIn K mainGlobals "reversed" = some none)
    (z17 : PySem.W.nsIn K mainGlobals "sum" = some none)
    (z18 : PySem.W.nsIn K mainGlobals "str" = some none)
    (z19 : PySem.W.nsIn K mainGlobals "any" = some none)
    : ∃ (fd : FuncData) (cs : List (Addr × Addr)) (sp : Sp), (∀ p ∈ cs, h.get? p.2 = some { cls := .none, data := .fields #[] }) ∧ (∀ p ∈ cs, K.lookup p.2 = none) ∧ (∀ p ∈ cs, PySem.W.CodeHd h p.1 p.2) ∧
      (∀ (s : Shared) (u : Value), BindsTo s fd ⟨[u], []⟩ [("script", u)]) ∧
      (∀ (H : Hp) (a : Addr) (ns : List Int), ns.length ≤ 63 → (∀ p ∈ cs, H p.2 = some (.tbl #[])) → SqL K H a (ns.map V.int) → sp [.ref a] H (fun v _ => v = .bl true) fun _ _ _ => False) ∧
      ∀ base : Heap, K.In base → base.Ns mainGlobals mg → (∀ p ∈ cs, TabB base mg p.1 p.2) → FnG l.prog w K mg base 7 fa fd ["script"] sp := by
  have e := hfa.symm.trans (PySem.W.mg_of X G a17)
  cases e
  have F1 := fun_mk (st := sInt) l1 c1 k1
  have g1 := PySem.W.mg_of X G a1
  have F2 := fun_mk (st := sNums) l2 c2 k2
  have g2 := PySem.W.mg_of X G a2
  have F3 := fun_mk (st := sFam) l3 c3 k3
  have g3 := PySem.W.mg_of X G a3
  have F4 := fun_mk (st := sReq) l4 c4 k4
  have g4 := PySem.W.mg_of X G a4
  have F5 := fun_mk (st := sReqF) l5 c5 k5
  have g5 := PySem.W.mg_of X G a5
  have F6 := fun_mk (st := sSplit) l6 c6 k6
  have g6 := PySem.W.mg_of X G a6
  have F7 := fun_mk (st := sPlaced) l7 c7 k7
  have g7 := PySem.W.mg_of X G a7
  have F8 := fun_mk (st := sMergeQ) l8 c8 k8
  have g8 := PySem.W.mg_of X G a8
  have F9 := fun_mk (st := sBlocks) l9 c9 k9
  have g9 := PySem.W.mg_of X G a9
  have F10 := fun_mk (st := sMerged) l10 c10 k10
  have g10 := PySem.W.mg_of X G a10
  have F11 := fun_mk (st := sAssign) l11 c11 k11
  have g11 := PySem.W.mg_of X G a11
  have F12 := fun_mk (st := sDrum) l12 c12 k12
  have g12 := PySem.W.mg_of X G a12
  have F13 := fun_mk (st := sSpin) l13 c13 k13
  have g13 := PySem.W.mg_of X G a13
  have F14 := fun_mk (st := sNumbers) l14 c14 k14
  have g14 := PySem.W.mg_of X G a14
  have F15 := fun_mk (st := sLFam) l15 c15 k15
  have g15 := PySem.W.mg_of X G a15
  have F16 := fun_mk (st := sRight) l16 c16 k16
  have g16 := PySem.W.mg_of X G a16
  have F17 := fun_mk (st := sLaw) l17 c17 k17
  have g17 := PySem.W.mg_of X G a17
  have b1 := F1.binds (ps := ["value"]) fun _ _ _ _ _ _ us hl => match us, hl with | [_], _ => rfl
  have b2 := F2.binds (ps := ["value"]) fun _ _ _ _ _ _ us hl => match us, hl with | [_], _ => rfl
  have b3 := F3.binds (ps := ["value"]) fun _ _ _ _ _ _ us hl => match us, hl with | [_], _ => rfl
  have b4 := F4.binds (ps := ["value"]) fun _ _ _ _ _ _ us hl => match us, hl with | [_], _ => rfl
  have b5 := F5.binds (ps := ["value"]) fun _ _ _ _ _ _ us hl => match us, hl with | [_], _ => rfl
  have b6 := F6.binds (ps := ["numbers"]) fun _ _ _ _ _ _ us hl => match us, hl with | [_], _ => rfl
  have b7 := F7.binds (ps := ["queues"]) fun _ _ _ _ _ _ us hl => match us, hl with | [_], _ => rfl
  have b8 := F8.binds (ps := ["queues"]) fun _ _ _ _ _ _ us hl => match us, hl with | [_], _ => rfl
  have b9 := F9.binds (ps := ["numbers"]) fun _ _ _ _ _ _ us hl => match us, hl with | [_], _ => rfl
  have b10 := F10.binds (ps := ["family"]) fun _ _ _ _ _ _ us hl => match us, hl with | [_], _ => rfl
  have b11 := F11.binds (ps := ["family"]) fun _ _ _ _ _ _ us hl => match us, hl with | [_], _ => rfl
  have b12 := F12.binds (ps := ["script", "k"]) fun _ _ _ _ _ _ us hl => match us, hl with | [_, _], _ => rfl
  have b13 := F13.binds (ps := ["drum", "size"]) fun _ _ _ _ _ _ us hl => match us, hl with | [_, _], _ => rfl
  have b14 := F14.binds (ps := ["drum", "many"]) fun _ _ _ _ _ _ us hl => match us, hl with | [_, _], _ => rfl
  have b15 := F15.binds (ps := ["drum", "most"]) fun _ _ _ _ _ _ us hl => match us, hl with | [_, _], _ => rfl
  have b16 := F16.binds (ps := ["drum", "family"]) fun _ _ _ _ _ _ us hl => match us, hl with | [_, _], _ => rfl
  have Tx : Txt mg := ⟨PySem.W.mg_none_of X G z1, PySem.W.mg_none_of X G z2, PySem.W.mg_none_of X G z3, PySem.W.mg_none_of X G z4, PySem.W.mg_none_of X G z5, PySem.W.mg_none_of X G z6, PySem.W.mg_none_of X G z7, PySem.W.mg_none_of X G z8, PySem.W.mg_none_of X G z9, PySem.W.mg_none_of X G z10, PySem.W.mg_none_of X G z11, PySem.W.mg_none_of X G z12, PySem.W.mg_none_of X G z13, PySem.W.mg_none_of X G z14, PySem.W.mg_none_of X G z15, PySem.W.mg_none_of X G z16, PySem.W.mg_none_of X G z17, PySem.W.mg_none_of X G z18, PySem.W.mg_none_of X G z19⟩
  have tb7 := tab7 f7 cc7 tt7 _ _ _ _ _ _ g7 l7 rfl rfl lc7 v7
  refine ⟨(PySem.W.fnOf "law" "law" (defArgs sLaw) (defBody sLaw) (defScope sLaw) .none kV17 dc17 pm17 an17 cd17 ct17), [(cc7, tt7)], spLaw K [(tt7, ("placed_blocks.<locals>." : Str) ++ "<lambda>")], ?_, ?_, ?_, fun s u => .of_eq rfl, ?_, ?_⟩
  · intro p hp
    have e : p = (cc7, tt7) := by simpa using hp
    rw [e]
    exact tb7.1
  · intro p hp
    have e : p = (cc7, tt7) := by simpa using hp
    rw [e]
    exact nt7
  · intro p hp
    have e : p = (cc7, tt7) := by simpa using hp
    rw [e]
    exact tb7.2
  · intro H a ns hl hH hS
    refine ⟨a, ns, rfl, hS, hl, ?_, fun _ => rfl⟩
    intro p hp
    have e : p = (tt7, ("placed_blocks.<locals>." : Str) ++ "<lambda>") := by simpa using hp
    rw [e]
    exact TabS.nil (hH (cc7, tt7) (by simp))
  · intro base _ _ hB
    have TB := hB (cc7, tt7) (by simp)
    have GN := ok_nums (P := l.prog) (w := w) (base := base) (k := 0) F2 Tx F1 g1 b1
    have GF := ok_fam (k := 2) F3 Tx GN g2 F2.kp b2
    have GR := ok_req (k := 2) F4 GN g2 F2.kp b2
    have GQ := ok_reqf (k := 3) F5 GF g3 F3.kp b3
    have GC := ok_split (P := l.prog) (w := w) (base := base) (k := 0) F6 Tx
    have GP := ok_placed (P := l.prog) (w := w) (k := 0) l7 c7 Tx TB (List.mem_singleton.mpr rfl) (fun p hp _ => by rw [List.mem_singleton.mp hp]) (GC.mono (show 1 ≤ 2 by decide)) g6 F6.kp b6
    have GM := ok_mergeq (k := 3) F8 GP g7 F7.kp b7
    have GB := ok_blocks (k := 3) F9 GR g4 F4.kp b4 (GC.mono (show 1 ≤ 3 by decide)) g6 F6.kp b6
    have GG := ok_merged (k := 4) F10 GQ g5 F5.kp b5 GM g8 F8.kp b8
    have GA := ok_assign (k := 4) F11 GQ g5 F5.kp b5 (GP.mono (show 3 ≤ 4 by decide)) g7 F7.kp b7
    have GD := ok_drum (P := l.prog) (w := w) (base := base) (k := 0) F12 Tx
    have GS := ok_spin (P := l.prog) (w := w) (base := base) (mg := mg) (k := 0) F13
    have GU := ok_numbers (k := 1) F14 Tx GS g13 F13.kp b13
    have GL := ok_lfam (k := 2) F15 Tx (GS.mono (show 1 ≤ 2 by decide)) g13 F13.kp b13 GU g14 F14.kp b14
    have GT := ok_right (k := 5) F16 Tx GG g10 F10.kp b10 (GB.mono (show 4 ≤ 5 by decide)) g9 F9.kp b9 (GS.mono (show 1 ≤ 5 by decide)) g13 F13.kp b13
    exact ok_law (k := 6) F17 Tx (GG.mono (show 5 ≤ 6 by decide)) g10 F10.kp b10 (GA.mono (show 5 ≤ 6 by decide)) g11 F11.kp b11 (GB.mono (show 4 ≤ 6 by decide)) g9 F9.kp b9 (GD.mono (show 1 ≤ 6 by decide)) g12 F12.kp b12 (GS.mono (show 1 ≤ 6 by decide)) g13 F13.kp b13 (GL.mono (show 3 ≤ 6 by decide)) g15 F15.kp b15 GT g16 F16.kp b16
end My
open PySem PySem.W PyProof.Rows
set_option maxHeartbeats 0 in
theorem PySem.Challenge.cw_leastheads_k06_whole_blocks_of_results_holds : PySem.Challenge.rw_leastheads_k06_whole_blocks_of_results.Holds := by
  w_on; o_law; k_head; (case hw => w_witness2)
  k_fill
  refine My.walkGT (l := PySem.Challenge.rw_leastheads_k06_whole_blocks_of_results) (n := 63) (k := 7) (x := "script") rfl (by decide) rfl ⟨rfl, by decide, by decide⟩ (fun w h Y => PySem.W.km_in_of Y) ?F
  case F =>
    intro w mg fa h KX G hmg tabs
    refine' My.all_in KX G hmg (tabs "placed_blocks" (by decide +kernel)) ?a1 ?l1 ?c1 ?k1 ?a2 ?l2 ?c2 ?k2 ?a3 ?l3 ?c3 ?k3 ?a4 ?l4 ?c4 ?k4 ?a5 ?l5 ?c5 ?k5 ?a6 ?l6 ?c6 ?k6 ?a7 ?l7 ?c7 ?k7 ?lc7 ?v7 ?nt7 ?a8 ?l8 ?c8 ?k8 ?a9 ?l9 ?c9 ?k9 ?a10 ?l10 ?c10 ?k10 ?a11 ?l11 ?c11 ?k11 ?a12 ?l12 ?c12 ?k12 ?a13 ?l13 ?c13 ?k13 ?a14 ?l14 ?c14 ?k14 ?a15 ?l15 ?c15 ?k15 ?a16 ?l16 ?c16 ?k16 ?a17 ?l17 ?c17 ?k17 ?z1 ?z2 ?z3 ?z4 ?z5 ?z6 ?z7 ?z8 ?z9 ?z10 ?z11 ?z12 ?z13 ?z14 ?z15 ?z16 ?z17 ?z18 ?z19
    (case a1 => k_is); (case l1 => k_is); (case c1 => k_is); (case k1 => k_is); (case a2 => k_is); (case l2 => k_is); (case c2 => k_is); (case k2 => k_is)
    (case a3 => k_is); (case l3 => k_is); (case c3 => k_is); (case k3 => k_is); (case a4 => k_is); (case l4 => k_is); (case c4 => k_is); (case k4 => k_is)
    (case a5 => k_is); (case l5 => k_is); (case c5 => k_is); (case k5 => k_is); (case a6 => k_is); (case l6 => k_is); (case c6 => k_is); (case k6 => k_is)
    (case a7 => k_is); (case l7 => k_is); (case c7 => k_is); (case k7 => k_is); (case lc7 => k_is); (case v7 => rfl); (case nt7 => kernel_rfl); (case a8 => k_is)
    (case l8 => k_is); (case c8 => k_is); (case k8 => k_is); (case a9 => k_is); (case l9 => k_is); (case c9 => k_is); (case k9 => k_is); (case a10 => k_is)
    (case l10 => k_is); (case c10 => k_is); (case k10 => k_is); (case a11 => k_is); (case l11 => k_is); (case c11 => k_is); (case k11 => k_is); (case a12 => k_is)
    (case l12 => k_is); (case c12 => k_is); (case k12 => k_is); (case a13 => k_is); (case l13 => k_is); (case c13 => k_is); (case k13 => k_is); (case a14 => k_is)
    (case l14 => k_is); (case c14 => k_is); (case k14 => k_is); (case a15 => k_is); (case l15 => k_is); (case c15 => k_is); (case k15 => k_is); (case a16 => k_is)
    (case l16 => k_is); (case c16 => k_is); (case k16 => k_is); (case a17 => k_is); (case l17 => k_is); (case c17 => k_is); (case k17 => k_is); (case z1 => k_is)
    (case z2 => k_is); (case z3 => k_is); (case z4 => k_is); (case z5 => k_is); (case z6 => k_is); (case z7 => k_is); (case z8 => k_is); (case z9 => k_is)
    (case z10 => k_is); (case z11 => k_is); (case z12 => k_is); (case z13 => k_is); (case z14 => k_is); (case z15 => k_is); (case z16 => k_is); (case z17 => k_is)
    (case z18 => k_is); (case z19 => k_is)
