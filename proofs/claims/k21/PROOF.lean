import PyProof.Rows.All
import Wide.All
import OpenK.AllK
import Wide.FinOn
import HandS.ForMost
import HandS.Style
import HandS.Zip
import HandS.Wide
import HandS.IsInst
import HandS.RaiseMore
import PyProof.ReprRoads
import PyProof.EqAt
import HandS.Ends
import HandS.Lambda
import HandS.EndBits
import KE.SortKeyHeap
import KE.SortData
import PyProof.Rows.SortShellAny
import PyProof.ListRange
import HandS.Sort
import HandS.SetFor
import HandS.Strs
import HandS.Dict
import HandS.DictComp
import KE.DataMinKey
import HandS.Remove
import HandS.NoneIn
import HandS.Conv
import PyProof.LongRange
import PyProof.CollectWalk
import KE.KDictList
import KE.KDictCopyH
import KE.KDictWalk
import HandS.Iter
import HandS.Small
import HandS.SortRule
import KE.KDictPairs
import KE.DataEq
import KE.GoesNew
import HandS.Rev
import KE.DatumOrd
import PySem.Challenge.RW_leastheads_k21_many_families_with_length
set_option Elab.async false
set_option linter.all false
set_option maxRecDepth 100000
namespace My
open PySem PySem.Spec PyProof.Rows L2

/-! powers of great numbers -/
def CPw (i j : Int) : Prop := 0 ≤ j ∧ j ≤ 1000 ∧ i.natAbs.log2 < 100000
theorem op_pw {X : Cx} : OpR X (binaryOp .Pow) (rI CPw fun i j => .int (i ^ j.toNat)) :=
  opI fun i j _ _ _ _ _ hc q => by
    obtain ⟨h0, h1, h2⟩ := hc
    refine pow_int h0 ?_ q
    have hb : Builtin.Int.intBits i ≤ i.natAbs.log2 + 1 := by
      unfold Builtin.Int.intBits
      split <;> omega
    have hb2 : (Builtin.Int.intBits i : Int) ≤ 100000 := by omega
    calc (Builtin.Int.intBits i : Int) * j ≤ 100000 * j := Int.mul_le_mul_of_nonneg_right hb2 h0
      _ ≤ 2 ^ 27 := by omega
theorem pw_ok {i j : Int} {b : Nat} (h0 : 0 ≤ j) (h1 : j ≤ 1000) (hb : i.natAbs < 2 ^ b) (hp : 0 < b) (hl : b ≤ 100000) : CPw i j := by
  have z := PySem.Flt.log2_lt_of hp hb
  exact ⟨h0, h1, by omega⟩
/-! repr of data -/
def rRep (K : PySem.W.Frag) : List V → Hp → VK → Prop := fun vs H Q => ∃ (a : Addr) (d : PyData), vs = [.ref a] ∧ Dp K H (.ref a) d ∧
  d.showable = true ∧ d.hasDict = false ∧ d.shown.length ≤ sizeLine ∧ d.depth ≤ 60 ∧ Q (.str d.shown) H
theorem cr_rep {X : Cx} (hg : X.A.guards = some []) (hu : X.A.units + 100 < cLine) : CallR X (.builtin "repr") (rRep X.K) := by
  intro pins s sg H xs us Q I rv h
  obtain ⟨a, d, rfl, hd, hs, hn, hz, hdp, q⟩ := h
  obtain ⟨u, rfl, ru⟩ := rv.one
  have ru' : u = Value.ref a := ru
  subst ru'
  obtain ⟨bs, r⟩ := Dp.reads I d _ _ hd (show RelV (.ref a) (Value.ref a) from rfl)
  refine repr_of_reads' (h₀ := s.heap) r hs (fun e => by rw [hn] at e; cases e) hg (by omega) (fun _ _ e => e) (fun h' u tk hk => ?_) hz
  exact ⟨.str d.shown, H, I.kept hk, ⟨u, rfl⟩, q⟩
end My
namespace My
open PySem PySem.Spec PyProof.Rows L2

/-! defs that are called where no repr runs: their promise knows it -/
structure FnG (P : Program) (w : World) (K : PySem.W.Frag) (mg : Str → Option Value) (base : Heap) (k : Nat) (f : Addr) (fd : FuncData)
    (ps : List Str) (sp : Sp) : Prop where
  len : ∀ vs H Q E, sp vs H Q E → vs.length = ps.length
  run : ∀ (A : Around) (outer : List Env) (s : Shared) (H : Hp) (args : Args) (us : List Value) (vs : List V) (Q : VK) (E : XK),
    Room k A → A.guards = some [] → Env0 P w K mg base A outer s H → BindsTo s fd args (ps.zip us) → Vals vs us → sp vs H Q E →
    codeAny (model P w) A (.call (.ref f) args) (CR CX0 outer P w H s Q E) s

theorem okG {P : Program} {w : World} {K : PySem.W.Frag} {mg : Str → Option Value} {base : Heap} {x qual : Str} {st : Stmt} {f : Addr}
    {fd : FuncData} {N ps : List Str} {k : Nat} {sp : Sp} (F : Fun K x qual st f fd) (S : FnScope N ps (defScope st))
    (len : ∀ vs H Q E, sp vs H Q E → vs.length = ps.length)
    (body : ∀ (cdv : Value) (A : Around) (outer : List Env) (s : Shared) (H : Hp) (vs : List V) (Q : VK) (E : XK), A.guards = some [] →
      Room k (A.deeper (envOfC qual (defScope st) s.heap.objs.size f cdv)) → sp vs H Q E →
      ∃ t, PSs (cxOf CX0 P w K mg base N qual (defScope st) f cdv A outer s H E).nox (defBody st) t ∧
        t { nx := fun _ H' => Q .non H', rt := Q } (start N vs) H) : FnG P w K mg base (k + 1) f fd ps sp := by
  obtain ⟨oc, od, kV, doc, pm, an, cdv, ct, osl, rfl, lk, hcd⟩ := F.ex
  refine ⟨len, ?_⟩
  intro A outer s H args us vs Q E room gu en bi rv want
  have hlen := len vs H Q E want
  have KI : K.In s.heap := en.mod.kin.keeps (fun b o e => (en.bs b o e).1)
  have NL : s.heap.NoLimit := en.mod.nolimit.keeps (fun b o e => (en.bs b o e).1)
  have kinds : ∀ y ∈ ps.zip us, (defScope st).names.lookup y.1 = some .local ∨
      ((defScope st).names.lookup y.1 = some .cell ∧ ((cellsFrom (s.heap.objs.size + 1) (defScope st).names []).lookup y.1).isSome = true) := by
    rintro ⟨n, v⟩ hy
    rcases S.par n (List.of_mem_zip hy).1 with z | z
    · exact Or.inl z
    · exact Or.inr ⟨z, PySem.W.cellsFrom_some _ _ _ (Or.inl z)⟩
  refine codeAny_call_function room.depth (KI _ _ lk) rfl S.co S.gen rfl (PySem.W.codeRec_of KI hcd) (bi _ _ _ _ ?_)
  refine wpAny_newFunctionEnv_cells S.kind kinds (fun env he s1 x1 => ?_)
  subst he
  refine ⟨NL.keeps x1.toInCall.keep, codeAny_func ?_⟩
  obtain ⟨t, ht, hq⟩ := body cdv A outer s H vs Q E gu (room.deeper _) want
  have J0 := inv_start (CX := CX0) (E := E) (qual := qual) S room.hd en hlen rv x1
  refine wpAny_mono (ht.nox.run [] s1 (start N vs) H _ J0 hq) ?_ (fun e s' z => z)
  intro fl s' z
  cases fl with
  | next =>
    obtain ⟨sg, H', J, q⟩ := z
    exact ⟨.non, H', J.os, J.bare, J.base, J.hok, rfl, q⟩
  | ret u =>
    obtain ⟨v, sg, H', J, r1, q⟩ := z
    exact ⟨v, H', J.os, J.bare, J.base, J.hok, r1, q⟩
  | brk => exact z.elim fun _ z => z.elim fun _ z => False.elim z.2
  | cont => exact z.elim fun _ z => z.elim fun _ z => False.elim z.2

section
variable {X : Cx} {k : Nat} {f : Addr} {fd : FuncData} {ps : List Str} {sp : Sp} {E : XK}
theorem pe_callG {x : Str} {p pos : Pos} {e : Expr} {es : List Expr} {t : TA} (F : FnG X.prog X.w X.K X.mg X.base k f fd ps sp) (room : Room k X.A)
    (gu : X.A.guards = some []) (gl : Gl X x) (hm : X.mg x = some (.ref f)) (kp : PySem.W.keepIn X.K (.ref f) = true) (bi : Binds X.K fd ps [])
    (pa : Passes CX0 X E) (ha : PA X (e :: es) t) (hdb : (x == ("__debug__" : Str)) = false := by decide)
    (he : starEach (e :: es) X.env = (false, eval e X.env) :: starEach es X.env := by rfl)
    (hpl : (backTo pos (starEach es X.env)).any (·.1) = false := by rfl) : PE X (.Call (.Name x p) (e :: es) [] pos) (tCall sp [] E t) := by
  refine ⟨fun pins s sg H Q I want => ?_⟩
  refine wpAny_Call_Name_kw (ld_glob I gl hm ?_ hdb)
  refine PySem.W.callWith_K (h₀ := X.base) I.ok.mod.kin kp (thn (ha.run pos pins s sg H _ I want) ?_) he hpl
  rintro us s1 ⟨vs, H1, I1, rv, q⟩
  refine ⟨I1.kIn, ?_⟩
  have q' : sp vs H1 Q E := by
    have z := q
    rw [List.append_nil] at z
    exact z
  have hl : (us ++ []).length = ps.length := by
    rw [List.append_nil, ← rv.length]
    exact F.len _ _ _ _ q'
  have bt := bi s1 us I1.kIn hl
  rw [List.append_nil] at bt
  refine wpAny_call (codeAny_mono (F.run X.A X.stack s1 H1 ⟨us, []⟩ us vs Q E room gu I1.env0 bt rv q') ?_)
  intro r s' z
  cases r with
  | error e => exact pa pins sg H1 s1 e s' I1 z
  | ok fl =>
    cases fl with
    | ret u => exact I1.after z
    | next => exact False.elim z
    | brk => exact False.elim z
    | cont => exact False.elim z
end

/-! the law's own end over such a promise -/
theorem endG {P : Program} {w : World} {K : PySem.W.Frag} {mg mb : Str → Option Value} {k : Nat} {fa a : Addr} {fd : FuncData} {x : Str} {sp : Sp}
    {s1 : Shared} {us : List Value} {ns : List Int} (KX : K.In s1.heap) (hns : s1.heap.Ns mainGlobals mg) (hb : s1.heap.Ns builtinsNs mb)
    (hbb : ∀ x : Str, x ≠ "__name__" → mb x = bootBuiltins x) (hlim : s1.heap.NoLimit) (hg : s1.gens = #[])
    (ha : s1.heap.get? a = some { cls := .type "list", data := .seq us.toArray }) (hi : IntsAre us ns) (hl : ns.length ≤ sizeLine)
    (room : Room k callerA) (F : ∀ base : Heap, K.In base → base.Ns mainGlobals mg → FnG P w K mg base k fa fd [x] sp)
    (bi : ∀ (s : Shared) (u : Value), BindsTo s fd ⟨[u], []⟩ [(x, u)])
    (want : ∀ H : Hp, Only H → SqL K H a (ns.map V.int) → sp [.ref a] H (fun v _ => v = .bl true) fun _ _ _ => False) :
    codeAny (model P w) callerA (.call (.ref fa) ⟨[.ref a], []⟩)
      (fun r s' => r = .ok (.ret (.bool true)) ∧ OldK s1.heap s'.heap ∧ s'.os = s1.os ∧ AllBare s'.gens) s1 := by
  have rv := vals_ints hi
  have main : ∀ H : Hp, Only H → SqL K H a (ns.map V.int) → HOk P w H s1.heap → (∀ b, H b ≠ none → b = a) → (H a ≠ none → K.lookup a = none) →
      codeAny (model P w) callerA (.call (.ref fa) ⟨[.ref a], []⟩)
        (fun r s' => r = .ok (.ret (.bool true)) ∧ OldK s1.heap s'.heap ∧ s'.os = s1.os ∧ AllBare s'.gens) s1 := by
    intro H only hS hok hA hK
    have dictFree : ∀ {b : Addr} {o : Obj} {es : Array DictEntry} {ep : Nat}, s1.heap.get? b = some o → o.data = .dict es ep → H b = none := by
      intro b o es ep e d
      by_cases z : H b = none
      · exact z
      · have e' := hA b z
        rw [e', ha] at e
        cases e
        cases (show Data.seq us.toArray _ = Data.dict es ep from d)
    have over : ∀ {b : Addr} {m : Str → Option Value}, s1.heap.Ns b m → (hidT s1.heap H).Ns b m := by
      rintro b m ⟨o, es, ep, e, d, r⟩
      exact ⟨o, es, ep, hidT_get e (dictFree e d), d, r⟩
    have KB : K.In (hidT s1.heap H) := by
      intro b o e
      refine hidT_get (KX b o e) ?_
      by_cases z : H b = none
      · exact z
      · have e' := hA b z
        rw [e'] at z e
        rw [hK z] at e
        cases e
    have M : Mod K mg (hidT s1.heap H) := by
      obtain ⟨mc, l1, l2⟩ := hlim
      exact ⟨KB, over hns, ⟨mb, over hb, hbb⟩, ⟨mc, over l1, l2⟩⟩
    have E0' : Env0 P w K mg (hidT s1.heap H) callerA [] s1 H :=
      ⟨rfl, M, fun b o e => of_hidT e, Nat.le_of_eq (hidT_size _ _), trivial, (fun b hb => nomatch (show b ∈ ([] : List Addr) from hb)), hok, .of_eq hg⟩
    refine codeAny_mono ((F _ KB (over hns)).run callerA [] s1 H ⟨[.ref a], []⟩ [.ref a] [.ref a] _ _ room rfl E0' (bi s1 (.ref a)) (.cons rfl .nil) (want H only hS)) ?_
    intro r s' z
    cases r with
    | error e => exact False.elim z
    | ok fl =>
      cases fl with
      | next => exact False.elim z
      | brk => exact False.elim z
      | cont => exact False.elim z
      | ret u =>
        obtain ⟨v, H', os, bare, un, hok2, r1, q⟩ := z
        have q1 : v = .bl true := q
        subst q1
        have q2 : u = Value.bool true := r1
        subst q2
        refine ⟨rfl, OldK.of_keep ?_, os, bare⟩
        intro b o e
        rcases only b with n | ⟨ob, xs, n⟩
        · exact un.keep b o e n (fun y => nomatch (show b ∈ ([] : List Addr) from y)) (fun y => nomatch y)
        · obtain ⟨e1, _⟩ := hok b _ n
          obtain ⟨e2, _⟩ := hok2 b _ (un.frzs b ob _ n)
          rw [e] at e1
          cases e1
          exact e2
  cases hk : K.lookup a with
  | some o =>
    have e := KX a o hk
    rw [ha] at e
    cases e
    refine main (fun _ => none) (fun _ => Or.inl rfl) (Or.inr ⟨_, us.toArray, _, hk, rfl, rfl, rfl, ?_, ?_⟩) ?_ ?_ ?_
    · rw [List.size_toArray, hi.length]; exact hl
    · simpa using rv
    · intro b u z; cases z
    · intro b z; exact absurd rfl z
    · intro z; exact absurd rfl z
  | none =>
    have at_a : (fun b => if b = a then some (HO.frz { cls := .type "list", data := .seq us.toArray } (.lst (ns.map V.int))) else none : Hp) a
      = some (HO.frz { cls := .type "list", data := .seq us.toArray } (.lst (ns.map V.int))) := if_pos rfl
    have off : ∀ b, b ≠ a → (fun b => if b = a then some (HO.frz { cls := .type "list", data := .seq us.toArray } (.lst (ns.map V.int))) else none : Hp) b = none :=
      fun b z => if_neg z
    refine main (fun b => if b = a then some (HO.frz { cls := .type "list", data := .seq us.toArray } (.lst (ns.map V.int))) else none) ?_ (Or.inl (Or.inr ⟨_, at_a⟩)) ?_ ?_ (fun _ => hk)
    · intro b
      by_cases z : b = a
      · subst z; exact Or.inr ⟨_, _, at_a⟩
      · exact Or.inl (off b z)
    · intro b u z
      by_cases y : b = a
      · subst y
        rw [at_a] at z
        cases z
        exact ⟨ha, by rw [List.length_map]; exact hl, us, _, rv, ha⟩
      · rw [off b y] at z; cases z
    · intro b z
      by_cases y : b = a
      · exact y
      · exact absurd (off b y) z

theorem walkG {l : PySem.W.OpenLaw} {n k : Nat} {q : Program} {loose : List Str} {XP : (Str → Option Value) → Heap → Prop} {YP : World → Heap → Prop}
    {d : DefRec} {K : Params → PySem.W.Frag} {sp : World → Sp} {x : Str} (hn : l.most = some n) (hn2 : n ≤ sizeLine) (hdf : d.params.defaults = [])
    (room : Room k callerA) (hY : ∀ (w : World) (h : Heap), YP w h → (K w.params).In h)
    (F : ∀ (w : World) (mg : Str → Option Value) (fa : Addr) (h : Heap), (K w.params).In h → h.Ns mainGlobals mg → mg d.name = some (.ref fa) →
      ∃ fd : FuncData, (∀ (s : Shared) (u : Value), BindsTo s fd ⟨[u], []⟩ [(x, u)]) ∧
        ∀ base : Heap, (K w.params).In base → base.Ns mainGlobals mg → FnG l.prog w (K w.params) mg base k fa fd [x] (sp w))
    (want : ∀ (w : World) (H : Hp) (a : Addr) (ns : List Int), ns.length ≤ n → Only H → SqL (K w.params) H a (ns.map V.int) →
      sp w [.ref a] H (fun v _ => v = .bl true) fun _ _ _ => False) :
    PySem.W.WalkO q loose XP YP l.row.toRowW d [] (fun f vs => PySem.call f vs) := by
  refine Att.attach_call hn hdf ?_
  intro w s0 s1 mg mb fa o pm cd doc a us ns G Y ho hd hcd hmg hobj hints hlen hg
  have KX := hY w _ Y
  obtain ⟨fd, b1, b2⟩ := F w mg fa _ KX G.T.g hmg
  exact endG KX G.T.g G.T.b G.T.builtins G.T.nolimit hg hobj hints (Nat.le_trans hlen hn2) room b2 b1 (fun H only hS => want w H a ns hlen only hS)
end My
namespace My
open PySem PySem.Spec PyProof.Rows L2

/-! l[a:c] = another list -/
def gSlc (to : TE) (tl th : TO) : TG := fun v sg H Q => to sg H fun o H1 => tl sg H1 fun lo H2 => th sg H2 fun hi H3 =>
  ∃ (l b : Addr) (xs ys : List V) (a c : Int), o = .ref l ∧ v = .ref b ∧ lo = some a ∧ hi = some c ∧ H3 l = some (.lst xs) ∧ H3 b = some (.lst ys) ∧ l ≠ b ∧
    0 ≤ a ∧ a ≤ c ∧ c ≤ xs.length ∧ xs.length + ys.length ≤ sizeLine ∧ Q sg (upd H3 l (.lst (xs.take a.toNat ++ ys ++ xs.drop c.toNat)))
theorem pg_slc {X : Cx} {o : Expr} {lo hi : Option Expr} {p2 pos : Pos} {to : TE} {tl th : TO} (ho : PE X o to) (hl : PO X lo tl) (hh : PO X hi th)
    (ha : ∀ v, assign (.Subscript o (.Slice lo hi none p2) pos) X.env v = (do
      let ov ← holding [v] (eval o X.env)
      let iv ← holding [v, ov] (eval (.Slice lo hi none p2) X.env)
      standAt pos
      holding [v, ov, iv] (setItem ov iv v)
      release [iv, v, ov] []) := by intro _; rfl) : PG X (.Subscript o (.Slice lo hi none p2) pos) (gSlc to tl th) := by
  refine ⟨fun pins s sg H v u Q I r want => ?_⟩
  rw [ha]
  refine wpAny_bind (wpAny_holding (thn (ho.run pins s sg H _ I want) ?_))
  rintro ov s1 ⟨x, H1, I1, r1, q1⟩
  refine wpAny_bind (wpAny_holding (wpAny_Slice (thn (hl.run pins s1 sg H1 _ I1 q1) ?_)))
  rintro vl s2 ⟨la, H2, I2, pl, q2⟩
  refine thn (hh.run pins s2 sg H2 _ I2 q2) ?_
  rintro vu s3 ⟨ua, H3, I3, pu, q3⟩
  rw [evalPart_none]
  refine wpAny_pure ?_
  have I4 : Inv X pins sg H3 { s3 with heap := s3.heap.push { cls := .type "slice", data := .fields #[vl, vu, .none] } } :=
    I3.kept (t' := s3.toks) (fun b ob q => Heap.get?_push_of_some _ q)
  obtain ⟨l, b, xs, ys, a, c, rfl, rfl, rfl, rfl, hx, hy, ne, h0, h1, h2, hz, q⟩ := q3
  have e1 : ov = Value.ref l := r1
  have e2 : u = Value.ref b := r
  subst e1 e2
  have ra : RelV (.int a) vl := by cases pl; exact ⟨_, rfl⟩
  have rc : RelV (.int c) vu := by cases pu; exact ⟨_, rfl⟩
  refine wpAny_bind (wpAny_standAt (wpAny_bind (wpAny_holding ?_)))
  refine set_slice I4 hx hy ne (Heap.IsSliceOf.new ..) ra rc h0 h1 h2 hz (fun s5 I5 => ?_)
  exact wpAny_release ⟨sg, _, I5, q⟩

/-! l.count(x) where the items and x are data -/
def rCnt (K : PySem.W.Frag) : V → List V → Hp → VK → Prop := fun x xs H Q => ∃ (a : Addr) (y : V) (d : PyData) (ds : List PyData), x = V.ref a ∧ xs = [y] ∧
  Dp K H (V.ref a) (.list ds) ∧ Dp K H y d ∧ SeqAt.shaped (.list ds) = true ∧ SeqAt.shaped d = true ∧ Q (.int (ds.countP (fun z => PyData.eqv z d) : Nat)) H
theorem mt_cnt {X : Cx} (hu : X.A.units + 65 < cLine) : MtR X "list.count" (rCnt X.K) := by
  intro pins s sg H x xs v us Q I rx rxs want
  obtain ⟨a, y, d, ds, rfl, rfl, hl, hy, sl, sd, q⟩ := want
  have e1 : v = Value.ref a := rx
  subst e1
  obtain ⟨uy, rfl, ry⟩ := rxs.one
  obtain ⟨bs, r1⟩ := Dp.reads I d y uy hy ry
  have lay : PyData.canLayAll0 ds = true := SeqAt.canLay_of_shaped sl
  cases hl with
  | lst hs hall =>
    obtain ⟨its, rv, ⟨⟨cls, dd, data, sls⟩, n, ho, hc, hdn, hdt⟩, hlen⟩ := I.list hs
    simp only at hc hdt
    subst hc hdt
    obtain ⟨as, r2⟩ := Dp.readsAll I ds _ its hall rv
    have mp : its.map (SeqAt.readOf s.heap) = ds := SeqAt.readsAll_map ds its as lay r2
    refine call_meets PySem.F.slot_list_count ⟨_, ho, rfl⟩ PySem.F.entry_list_count (PySem.F.args_list_count_2 _ _)
      (SeqAt.list_countAt a its.toArray n dd sls uy (fun u => PyData.eqv (SeqAt.readOf s.heap u) d))
      ⟨ho, SeqAt.items_eqAt (vs := its.toArray) (show ReadsAll s.heap its.toArray.toList ds as from r2) r1 lay (SeqAt.canLay_of_shaped sd) (room_in_shaped sd hu), ?_⟩
    refine ⟨.int (ds.countP (fun z => PyData.eqv z d) : Nat), H, I.tok _, ⟨s.toks, ?_⟩, q⟩
    rw [← mp, List.countP_map]
    rfl
end My
namespace My
open PySem PySem.Spec PyProof.Rows L2

/-! heaps -/
theorem same0 {H H' : Hp} {p : Addr} {o : HO} (sm : Same H H') (n : H p = none) : Same H (upd H' p o) := fun b u e => by
  rw [upd_ne (ne_of_none e n)]
  exact sm b u e
theorem sameN {H : Hp} {p : Addr} {o : HO} (n : H p = none) : Same H (upd H p o) := same0 (Same.refl H) n

/-- at the addresses qs stand lists with the rows bs -/
structure Rws (H : Hp) (qs : List Addr) (bs : List (List V)) : Prop where
  len : qs.length = bs.length
  nd : qs.Nodup
  get : ∀ (j : Nat) (q : Addr) (b : List V), qs[j]? = some q → bs[j]? = some b → H q = some (.lst b)
theorem Rws.nil {H : Hp} : Rws H [] [] := ⟨rfl, List.nodup_nil, fun j q b e => by simp at e⟩
theorem Rws.off {H : Hp} {qs : List Addr} {bs : List (List V)} (R : Rws H qs bs) {p : Addr} {o : HO} (n : p ∉ qs) : Rws (upd H p o) qs bs :=
  ⟨R.len, R.nd, fun j q b e1 e2 => by
    have ne : q ≠ p := fun z => n (by rw [← z]; exact List.mem_of_getElem? e1)
    rw [upd_ne ne]
    exact R.get j q b e1 e2⟩
theorem Rws.same {H H' : Hp} {qs : List Addr} {bs : List (List V)} (R : Rws H qs bs) (s : Same H H') : Rws H' qs bs :=
  ⟨R.len, R.nd, fun j q b e1 e2 => s _ _ (R.get j q b e1 e2)⟩
theorem Rws.at' {H : Hp} {qs : List Addr} {bs : List (List V)} (R : Rws H qs bs) {q : Addr} (h : q ∈ qs) : ∃ (j : Nat) (b : List V), qs[j]? = some q ∧ bs[j]? = some b ∧ H q = some (.lst b) := by
  obtain ⟨j, hj⟩ := List.mem_iff_getElem?.mp h
  have hl : j < bs.length := by rw [← R.len]; exact (List.getElem?_eq_some_iff.mp hj).1
  exact ⟨j, bs[j], hj, List.getElem?_eq_getElem hl, R.get _ _ _ hj (List.getElem?_eq_getElem hl)⟩
theorem Rws.there {H : Hp} {qs : List Addr} {bs : List (List V)} (R : Rws H qs bs) {q : Addr} (h : q ∈ qs) : H q ≠ none := by
  obtain ⟨j, b, _, _, e⟩ := R.at' h
  rw [e]; exact fun z => nomatch z
theorem Rws.push {H : Hp} {qs : List Addr} {bs : List (List V)} (R : Rws H qs bs) {p : Addr} {b : List V} (n : H p = none) : Rws (upd H p (.lst b)) (qs ++ [p]) (bs ++ [b]) := by
  have np : p ∉ qs := fun h => R.there h n
  refine ⟨by rw [List.length_append, List.length_append, R.len]; rfl, ?_, ?_⟩
  · refine List.nodup_append.mpr ⟨R.nd, by simp, ?_⟩
    intro x hx y hy e
    have e2 : y = p := by simpa using hy
    exact np (e2 ▸ e ▸ hx)
  · intro j q c e1 e2
    rcases Nat.lt_or_ge j qs.length with z | z
    · rw [List.getElem?_append_left z] at e1
      rw [List.getElem?_append_left (R.len ▸ z)] at e2
      exact (R.off np).get j q c e1 e2
    · rw [List.getElem?_append_right z] at e1
      rw [List.getElem?_append_right (R.len ▸ z), ← R.len] at e2
      cases hk : j - qs.length with
      | zero =>
        rw [hk] at e1 e2
        cases e1
        cases e2
        exact upd_same
      | succ m =>
        rw [hk] at e1
        simp at e1
theorem Rws.put {H : Hp} {qs : List Addr} {bs : List (List V)} (R : Rws H qs bs) {j : Nat} {q : Addr} {b : List V} (e : qs[j]? = some q) : Rws (upd H q (.lst b)) qs (bs.set j b) := by
  refine ⟨by rw [List.length_set]; exact R.len, R.nd, ?_⟩
  intro i r c e1 e2
  by_cases z : i = j
  · subst z
    rw [e] at e1
    cases e1
    have hl : i < bs.length := by rw [← R.len]; exact (List.getElem?_eq_some_iff.mp e).1
    rw [List.getElem?_set_self hl] at e2
    cases e2
    exact upd_same
  · rw [List.getElem?_set_ne (fun y => z y.symm)] at e2
    have ne : r ≠ q := fun y => z (nd_ix R.nd (y ▸ e1) e)
    rw [upd_ne ne]
    exact R.get i r c e1 e2

/-! blocks -/
def put (bs : List (List Int)) (n : Int) : List (List Int) :=
  match bs.getLast? with
  | none => [[n]]
  | some l => if l.headD 0 < n then bs ++ [[n]] else bs.dropLast ++ [l ++ [n]]
def cut (ns : List Int) : List (List Int) := ns.foldl put []
theorem cut_snoc (ns : List Int) (n : Int) : cut (ns ++ [n]) = put (cut ns) n := by
  unfold cut
  rw [List.foldl_append]
  rfl
theorem put_nil (n : Int) : put [] n = [[n]] := rfl
theorem put_snoc (ini : List (List Int)) (l : List Int) (n : Int) : put (ini ++ [l]) n = if l.headD 0 < n then (ini ++ [l]) ++ [[n]] else ini ++ [l ++ [n]] := by
  unfold put
  rw [List.getLast?_concat, List.dropLast_concat]
/-- what holds of the blocks of ns -/
structure Good (ns : List Int) (bs : List (List Int)) : Prop where
  flat : bs.flatten = ns
  ne : ∀ b ∈ bs, b ≠ []
  last : bs = [] ∨ ∃ ini x r, bs = ini ++ [x :: r] ∧ x ∈ ns ∧ ∀ y ∈ ns, y ≤ x
theorem good_step {ns : List Int} {bs : List (List Int)} (G : Good ns bs) (n : Int) : Good (ns ++ [n]) (put bs n) := by
  rcases G.last with e | ⟨ini, x, r, e, hx, hm⟩
  · subst e
    have e2 : ns = [] := by rw [← G.flat]; rfl
    subst e2
    exact ⟨rfl, by simp [put_nil], Or.inr ⟨[], n, [], rfl, by simp, by simp⟩⟩
  · subst e
    rw [put_snoc]
    by_cases h : (x :: r).headD 0 < n
    · rw [if_pos h]
      have h' : x < n := h
      refine ⟨by rw [List.flatten_append, G.flat]; rfl, ?_, Or.inr ⟨ini ++ [x :: r], n, [], rfl, by simp, ?_⟩⟩
      · intro b hb
        rcases List.mem_append.mp hb with z | z
        · exact G.ne b z
        · have : b = [n] := by simpa using z
          rw [this]; simp
      · intro y hy
        rcases List.mem_append.mp hy with z | z
        · have := hm y z; omega
        · have : y = n := by simpa using z
          omega
    · rw [if_neg h]
      have h' : ¬ x < n := h
      refine ⟨?_, ?_, Or.inr ⟨ini, x, r ++ [n], rfl, List.mem_append_left _ hx, ?_⟩⟩
      · have f := G.flat
        rw [List.flatten_append] at f ⊢
        rw [← f]
        simp
      · intro b hb
        rcases List.mem_append.mp hb with z | z
        · exact G.ne b (List.mem_append_left _ z)
        · have : b = x :: r ++ [n] := by simpa using z
          rw [this]; simp
      · intro y hy
        rcases List.mem_append.mp hy with z | z
        · exact hm y z
        · have : y = n := by simpa using z
          omega
theorem good_from : ∀ (rest pre : List Int), Good pre (cut pre) → Good (pre ++ rest) (cut (pre ++ rest))
  | [], pre, h => by rw [List.append_nil]; exact h
  | n :: rest, pre, h => by
    have h2 := good_step h n
    rw [← cut_snoc] at h2
    have h3 := good_from rest (pre ++ [n]) h2
    rw [List.append_assoc] at h3
    exact h3
theorem good_cut (ns : List Int) : Good ns (cut ns) := good_from ns [] ⟨rfl, by simp [cut], Or.inl rfl⟩
theorem cut_take {ns : List Int} {i : Nat} {n : Int} (h : ns[i]? = some n) : cut (ns.take (i + 1)) = put (cut (ns.take i)) n := by
  rw [List.take_add_one, h]
  exact cut_snoc _ _
theorem flat_len : ∀ {bs : List (List Int)}, (∀ b ∈ bs, b ≠ []) → bs.length ≤ bs.flatten.length
  | [], _ => Nat.zero_le _
  | b :: bs, h => by
    have ih := flat_len (bs := bs) fun c hc => h c (List.mem_cons_of_mem _ hc)
    have hb := h b (List.mem_cons_self ..)
    cases b with
    | nil => exact absurd rfl hb
    | cons x r =>
      rw [List.flatten_cons, List.length_append, List.length_cons, List.length_cons]
      omega
theorem flat_mem_len : ∀ {bs : List (List Int)} {b : List Int}, b ∈ bs → b.length ≤ bs.flatten.length
  | c :: bs, b, h => by
    rw [List.flatten_cons, List.length_append]
    rcases List.mem_cons.mp h with e | e
    · rw [e]; omega
    · have := flat_mem_len (bs := bs) e
      omega
theorem Good.len {ns : List Int} {bs : List (List Int)} (G : Good ns bs) : bs.length ≤ ns.length := by
  have := flat_len G.ne
  rw [G.flat] at this
  exact this
theorem Good.rowlen {ns : List Int} {bs : List (List Int)} (G : Good ns bs) {b : List Int} (h : b ∈ bs) : b.length ≤ ns.length := by
  have := flat_mem_len h
  rw [G.flat] at this
  exact this
/-- the law's own question: is a number before it greater? -/
theorem cut_ask {ns : List Int} {n : Int} (nd : (ns ++ [n]).Nodup) : (ns.filter fun o => decide (n < o)) = [] ↔ (cut ns = [] ∨ ∃ ini x r, cut ns = ini ++ [x :: r] ∧ x < n) := by
  have G := good_cut ns
  constructor
  · intro h
    rcases G.last with e | ⟨ini, x, r, e, hx, hm⟩
    · exact Or.inl e
    · refine Or.inr ⟨ini, x, r, e, ?_⟩
      have h1 := (List.filter_eq_nil_iff.mp h) x hx
      have h2 : ¬ n < x := fun z => h1 (decide_eq_true z)
      have h3 : x ≠ n := fun z => by
        have := (List.nodup_append.mp nd).2.2 x hx n (by simp)
        exact this z
      omega
  · intro h
    refine List.filter_eq_nil_iff.mpr ?_
    intro y hy
    rcases h with e | ⟨ini, x, r, e, hlt⟩
    · have : ns = [] := by rw [← G.flat, e]; rfl
      rw [this] at hy
      simp at hy
    · rcases G.last with e2 | ⟨ini2, x2, r2, e2, hx2, hm2⟩
      · rw [e2] at e
        simp at e
      · rw [e2] at e
        have e3 := (List.append_inj' e rfl).2
        have e4 : x2 = x := by simpa using (List.cons.inj (List.cons.inj e3).1).1
        have := hm2 y hy
        have : ¬ n < y := by omega
        simpa using this
end My
namespace My
open PySem PySem.Spec PyProof.Rows L2
theorem erase_perm {α : Type} : ∀ {l : List α} {k : Nat} {y : α}, l[k]? = some y → (y :: l.eraseIdx k).Perm l
  | [], k, y, h => by simp at h
  | x :: l, 0, y, h => by
    have e : x = y := Option.some.inj h
    subst e
    exact List.Perm.refl _
  | x :: l, k + 1, y, h => by
    have ih := erase_perm (l := l) (k := k) (y := y) h
    exact (List.Perm.swap x y _).trans (List.Perm.cons x ih)
theorem erase_map {α β : Type} (g : α → β) : ∀ (l : List α) (k : Nat), (l.map g).eraseIdx k = (l.eraseIdx k).map g
  | [], _ => rfl
  | _ :: _, 0 => rfl
  | x :: l, k + 1 => by
    show g x :: (l.map g).eraseIdx k = g x :: (l.eraseIdx k).map g
    rw [erase_map g l k]
/-- two neighbours turned -/
def swp (fs : List Int) (t : Nat) : List Int := fs.take t ++ ((fs.drop t).take 2).reverse ++ fs.drop (t + 2)
theorem swp_perm (fs : List Int) (t : Nat) : (swp fs t).Perm fs := by
  unfold swp
  have e : fs = fs.take t ++ ((fs.drop t).take 2 ++ fs.drop (t + 2)) := by
    have h1 : (fs.drop t).take 2 ++ (fs.drop t).drop 2 = fs.drop t := List.take_append_drop ..
    rw [List.drop_drop] at h1
    rw [show t + 2 = t + 2 from rfl, h1, List.take_append_drop]
  rw [List.append_assoc]
  refine List.Perm.trans ?_ (List.Perm.of_eq e.symm)
  exact List.Perm.append_left _ (List.Perm.append_right _ (List.reverse_perm _))
theorem cut_two {fs : List Int} {t : Nat} (h : t + 2 ≤ fs.length) : cutV (fs.map V.int) (some (t : Int)) (some ((t : Int) + 2)) = ((fs.drop t).take 2).map V.int := by
  unfold cutV
  have e : ((t : Int) + 2) = ((t + 2 : Nat) : Int) := rfl
  rw [e, HT.sIx_nat, HT.sIx_nat, List.length_map]
  have h1 : min t fs.length = t := Nat.min_eq_left (by omega)
  have h2 : min (t + 2) fs.length = t + 2 := Nat.min_eq_left h
  rw [h1, h2, Nat.add_sub_cancel_left, List.map_take, List.map_drop]
theorem swp_vals {fs : List Int} {t : Nat} (h : t + 2 ≤ fs.length) :
    (fs.map V.int).take (t : Int).toNat ++ (((fs.drop t).take 2).map V.int).reverse ++ (fs.map V.int).drop ((t : Int) + 2).toNat = (swp fs t).map V.int := by
  have e1 : (t : Int).toNat = t := Int.toNat_natCast t
  have e2 : ((t : Int) + 2).toNat = t + 2 := by omega
  rw [e1, e2]
  unfold swp
  simp only [List.map_append, List.map_take, List.map_drop, List.map_reverse]
theorem pick4 (a b c d : Int) {v : Int} (h0 : 0 ≤ v) (h1 : v < 4) (p : Int → Prop) (ha : p a) (hb : p b) (hc : p c) (hd : p d) :
    ∃ g, atI [V.int a, V.int b, V.int c, V.int d] v = some (.int g) ∧ p g := by
  have hv : v = ((0 : Nat) : Int) ∨ v = ((1 : Nat) : Int) ∨ v = ((2 : Nat) : Int) ∨ v = ((3 : Nat) : Int) := by omega
  rcases hv with e | e | e | e
  · exact ⟨a, by rw [e]; exact atI_nat rfl, ha⟩
  · exact ⟨b, by rw [e]; exact atI_nat rfl, hb⟩
  · exact ⟨c, by rw [e]; exact atI_nat rfl, hc⟩
  · exact ⟨d, by rw [e]; exact atI_nat rfl, hd⟩
theorem pick3 (a b c : Int) {v : Int} (h0 : 0 ≤ v) (h1 : v < 3) (p : Int → Prop) (ha : p a) (hb : p b) (hc : p c) :
    ∃ g, atI [V.int a, V.int b, V.int c] v = some (.int g) ∧ p g := by
  have hv : v = ((0 : Nat) : Int) ∨ v = ((1 : Nat) : Int) ∨ v = ((2 : Nat) : Int) := by omega
  rcases hv with e | e | e
  · exact ⟨a, by rw [e]; exact atI_nat rfl, ha⟩
  · exact ⟨b, by rw [e]; exact atI_nat rfl, hb⟩
  · exact ⟨c, by rw [e]; exact atI_nat rfl, hc⟩
theorem asc_nodup {fs : List Int} (h : fs.Pairwise (· < ·)) : fs.Nodup := h.imp fun z => by omega
/-- all but what stands at D is as it was -/
def But (D : Addr) (H H' : Hp) : Prop := ∀ b o, b ≠ D → H b = some o → H' b = some o
theorem But.refl (D : Addr) (H : Hp) : But D H H := fun _ _ _ h => h
theorem But.trans {D : Addr} {H H1 H2 : Hp} (a : But D H H1) (b : But D H1 H2) : But D H H2 := fun c o n h => b c o n (a c o n h)
theorem But.of {D : Addr} {H H' : Hp} (s : Same H H') : But D H H' := fun b o _ h => s b o h
theorem But.updD {D : Addr} {H H' : Hp} {o : HO} (s : But D H H') : But D H (upd H' D o) := fun b u n e => by
  rw [upd_ne n]
  exact s b u n e
theorem But.updN {D p : Addr} {H H' : Hp} {o : HO} (s : But D H H') (n : H p = none) : But D H (upd H' p o) := fun b u nb e => by
  rw [upd_ne (ne_of_none e n)]
  exact s b u nb e
theorem But.free {D p : Addr} {H H' : Hp} (s : But D H H') (np : p ≠ D) (n : H' p = none) : H p = none := by
  cases e : H p with
  | none => rfl
  | some o =>
    rw [s p o np e] at n
    cases n
end My
namespace My
open PySem PySem.Spec PyProof.Rows L2
theorem put_new {pre : List Int} {n : Int} (h : cut pre = [] ∨ ∃ ini x r, cut pre = ini ++ [x :: r] ∧ x < n) : put (cut pre) n = cut pre ++ [[n]] := by
  rcases h with e | ⟨ini, x, r, e, l⟩
  · rw [e]; rfl
  · rw [e, put_snoc]
    exact if_pos l
theorem put_old {pre : List Int} {n : Int} (h : ¬ (cut pre = [] ∨ ∃ ini x r, cut pre = ini ++ [x :: r] ∧ x < n)) :
    ∃ ini x r, cut pre = ini ++ [x :: r] ∧ put (cut pre) n = ini ++ [(x :: r) ++ [n]] := by
  rcases (good_cut pre).last with e | ⟨ini, x, r, e, _, _⟩
  · exact absurd (Or.inl e) h
  · refine ⟨ini, x, r, e, ?_⟩
    rw [e, put_snoc]
    exact if_neg fun z => h (Or.inr ⟨ini, x, r, e, z⟩)
theorem cut_to {xs : List V} (j : Nat) : cutV xs none (some (j : Int)) = xs.take j := by
  unfold cutV
  rw [HT.sIx_nat, HT.sIx_none, List.drop_zero, Nat.sub_zero]
  rcases Nat.le_total j xs.length with h | h
  · rw [Nat.min_eq_left h]
  · rw [Nat.min_eq_right h, List.take_of_length_le (Nat.le_refl _), List.take_of_length_le h]

/-! data -/
def dI (ns : List Int) : PyData := .list (ns.map .int)
def dR (bs : List (List Int)) : PyData := .list (bs.map dI)
theorem dpAll_ints {K : PySem.W.Frag} {H : Hp} : ∀ ns : List Int, DpAll K H (ns.map V.int) (ns.map PyData.int)
  | [] => .nil
  | n :: ns => .cons (.int n) (dpAll_ints ns)
theorem dpI {K : PySem.W.Frag} {H : Hp} {a : Addr} {ns : List Int} (h : SqL K H a (ns.map V.int)) : Dp K H (.ref a) (dI ns) := .lst h (dpAll_ints ns)
theorem dpAll_rows {K : PySem.W.Frag} {H : Hp} : ∀ {qs : List Addr} {bs : List (List Int)}, qs.length = bs.length →
    (∀ (j : Nat) (q : Addr) (b : List Int), qs[j]? = some q → bs[j]? = some b → H q = some (.lst (b.map V.int))) → DpAll K H (qs.map V.ref) (bs.map dI)
  | [], [], _, _ => .nil
  | q :: qs, b :: bs, hl, h => .cons (dpI (SqL.of (h 0 q b rfl rfl))) (dpAll_rows (by simpa using hl) fun j q' b' e1 e2 => h (j + 1) q' b' e1 e2)
  | [], _ :: _, hl, _ => by cases hl
  | _ :: _, [], hl, _ => by cases hl
theorem dpR {K : PySem.W.Frag} {H : Hp} {p : Addr} {qs : List Addr} {bs : List (List Int)} (h : H p = some (.lst (qs.map V.ref))) (R : Rws H qs (bs.map fun b => b.map V.int)) : Dp K H (.ref p) (dR bs) := by
  refine .lst (SqL.of h) (dpAll_rows (by have := R.len; rwa [List.length_map] at this) ?_)
  intro j q b e1 e2
  exact R.get j q _ e1 (by rw [List.getElem?_map, e2]; rfl)
theorem lay_ints : ∀ ns : List Int, PyData.canLayAll0 (ns.map PyData.int) = true
  | [] => by simp [PyData.canLayAll0]
  | n :: ns => by simp [PyData.canLayAll0, PyData.canLay0, lay_ints ns]
theorem dep_ints : ∀ ns : List Int, PyData.depthAll (ns.map PyData.int) ≤ 1
  | [] => by simp [PyData.depthAll]
  | n :: ns => by
    have := dep_ints ns
    simp only [List.map_cons, PyData.depthAll, PyData.depth]
    omega
theorem dI_depth (ns : List Int) : (dI ns).depth ≤ 2 := by
  have := dep_ints ns
  unfold dI
  simp only [PyData.depth]
  omega
theorem dR_depthAll : ∀ bs : List (List Int), PyData.depthAll (bs.map dI) ≤ 2
  | [] => by simp [PyData.depthAll]
  | b :: bs => by
    have h1 := dR_depthAll bs
    have h2 := dI_depth b
    simp only [List.map_cons, PyData.depthAll]
    omega
theorem dR_depth (bs : List (List Int)) : (dR bs).depth ≤ 3 := by
  have := dR_depthAll bs
  unfold dR
  simp only [PyData.depth]
  omega
theorem shaped_I (ns : List Int) : SeqAt.shaped (dI ns) = true := by
  have h := dI_depth ns
  show ((dI ns).canLay0 && decide ((dI ns).depth ≤ 64)) = true
  rw [Bool.and_eq_true]
  refine ⟨?_, decide_eq_true (by omega)⟩
  unfold dI
  simp only [PyData.canLay0]
  exact lay_ints ns
theorem eqv_empty (ds : List PyData) : PyData.eqv (.list ds) (.list []) = ds.isEmpty := by
  cases ds with
  | nil => simp [PyData.eqv, PyData.eqvAll]
  | cons d r => simp [PyData.eqv, PyData.eqvAll]
/-- numbers whose text is short -/
def Sh (ns : List Int) : Prop := ∀ x ∈ ns, -(10 ^ 32) < x ∧ x < 10 ^ 32
theorem show_I : ∀ ns : List Int, Sh ns → PyData.showableAll (ns.map PyData.int) = true
  | [], _ => by simp [PyData.showableAll]
  | n :: ns, h => by
    have h1 := h n (List.mem_cons_self ..)
    have h2 := show_I ns fun x hx => h x (List.mem_cons_of_mem _ hx)
    have z := PySem.Flt.log2_lt_of (show 0 < 120 by decide) (show n.natAbs < 2 ^ 120 by omega)
    have h3 : n.natAbs.log2 < 1920 := by omega
    simp [PyData.showableAll, PyData.showable, h2, h3]
theorem nodict_I : ∀ ns : List Int, PyData.hasDictAll (ns.map PyData.int) = false
  | [] => by simp [PyData.hasDictAll]
  | n :: ns => by simp [PyData.hasDictAll, PyData.hasDict, nodict_I ns]
theorem show_R : ∀ bs : List (List Int), (∀ b ∈ bs, Sh b) → PyData.showableAll (bs.map dI) = true
  | [], _ => by simp [PyData.showableAll]
  | b :: bs, h => by
    have h1 := show_I b (h b (List.mem_cons_self ..))
    have h2 := show_R bs fun x hx => h x (List.mem_cons_of_mem _ hx)
    have h3 : (dI b).showable = true := by unfold dI; simp only [PyData.showable]; exact h1
    simp [PyData.showableAll, h2, h3]
theorem nodict_R : ∀ bs : List (List Int), PyData.hasDictAll (bs.map dI) = false
  | [] => by simp [PyData.hasDictAll]
  | b :: bs => by
    have h3 : (dI b).hasDict = false := by unfold dI; simp only [PyData.hasDict]; exact nodict_I b
    simp [PyData.hasDictAll, h3, nodict_R bs]
theorem int_len {i : Int} (h : -(10 ^ 32) < i ∧ i < 10 ^ 32) : (PyData.int i).shown.length ≤ 33 := by
  have e := PySem.int_text_length_le10 (a := i) (k := 32) (by decide) (by omega)
  rw [PyData.shown_int]
  show (Str.ofString (toString i)).length ≤ 33
  rw [PySem.ofString_length]
  exact e
theorem sumI : ∀ ns : List Int, Sh ns → ((PyData.shownAll (ns.map PyData.int)).map (·.length)).sum ≤ 33 * ns.length
  | [], _ => by simp [PyData.shownAll]
  | n :: ns, h => by
    have h1 := int_len (h n (List.mem_cons_self ..))
    have h2 := sumI ns fun x hx => h x (List.mem_cons_of_mem _ hx)
    simp only [List.map_cons, PyData.shownAll, List.sum_cons, List.length_cons]
    omega
theorem dI_len {ns : List Int} (h : Sh ns) : (dI ns).shown.length ≤ 35 * ns.length + 3 := by
  have h1 := listText_len_le (PyData.shownAll (ns.map PyData.int))
  have h2 := sumI ns h
  rw [PyData.shownAll_length, List.length_map] at h1
  unfold dI
  simp only [PyData.shown]
  omega
theorem sumR (m : Nat) : ∀ bs : List (List Int), (∀ b ∈ bs, Sh b ∧ b.length ≤ m) → ((PyData.shownAll (bs.map dI)).map (·.length)).sum ≤ (35 * m + 3) * bs.length
  | [], _ => by simp [PyData.shownAll]
  | b :: bs, h => by
    obtain ⟨h0, h0'⟩ := h b (List.mem_cons_self ..)
    have h1 := dI_len h0
    have h2 := sumR m bs fun x hx => h x (List.mem_cons_of_mem _ hx)
    simp only [List.map_cons, PyData.shownAll, List.sum_cons, List.length_cons, Nat.mul_add]
    omega
theorem dR_len {bs : List (List Int)} (h : ∀ b ∈ bs, Sh b ∧ b.length ≤ 300) (hl : bs.length ≤ 300) : (dR bs).shown.length ≤ sizeLine := by
  have h1 := listText_len_le (PyData.shownAll (bs.map dI))
  have h2 := sumR 300 bs h
  rw [PyData.shownAll_length, List.length_map] at h1
  have h3 : (35 * 300 + 3) * bs.length ≤ (35 * 300 + 3) * 300 := Nat.mul_le_mul_left _ hl
  have e : (dR bs).shown = listText (PyData.shownAll (bs.map dI)) := by unfold dR; simp only [PyData.shown]
  rw [e]
  unfold sizeLine
  omega
/-- what repr asks of them -/
theorem askI {ns : List Int} (h : Sh ns) (hl : ns.length ≤ 4000) : (dI ns).showable = true ∧ (dI ns).hasDict = false ∧ (dI ns).shown.length ≤ sizeLine ∧ (dI ns).depth ≤ 60 := by
  refine ⟨?_, ?_, ?_, ?_⟩
  · unfold dI; simp only [PyData.showable]; exact show_I ns h
  · unfold dI; simp only [PyData.hasDict]; exact nodict_I ns
  · have := dI_len h
    unfold sizeLine
    omega
  · have := dI_depth ns
    omega
theorem askR {bs : List (List Int)} (h : ∀ b ∈ bs, Sh b ∧ b.length ≤ 300) (hl : bs.length ≤ 300) : (dR bs).showable = true ∧ (dR bs).hasDict = false ∧ (dR bs).shown.length ≤ sizeLine ∧ (dR bs).depth ≤ 60 := by
  refine ⟨?_, ?_, dR_len h hl, ?_⟩
  · unfold dR; simp only [PyData.showable]; exact show_R bs fun b hb => (h b hb).1
  · unfold dR; simp only [PyData.hasDict]; exact nodict_R bs
  · have := dR_depth bs
    omega
theorem Good.sh {ns : List Int} {bs : List (List Int)} (G : Good ns bs) (h : Sh ns) (hl : ns.length ≤ 300) : ∀ b ∈ bs, Sh b ∧ b.length ≤ 300 := by
  intro b hb
  refine ⟨fun x hx => h x ?_, Nat.le_trans (G.rowlen hb) hl⟩
  rw [← G.flat]
  exact List.mem_flatten.mpr ⟨b, hb, hx⟩

/-! a loop over enumerate(a) -/
theorem for_en {K : PySem.W.Frag} {a : Addr} {xs : List V} {g : TG} {tb : TS} {D : Ends} {sg : L2.St} {H : Hp} (Pv : Nat → L2.St → Hp → Prop) (start : Pv 0 sg H)
    (stays : ∀ i sg H, i ≤ xs.length → Pv i sg H → SqL K H a xs)
    (turn : ∀ i x sg H T, xs[i]? = some x → Pv i sg H → H T = none → g (.ref T) sg (upd H T (.tup [.int (i : Nat), x])) fun sg2 H2 => tb { D with nx := Pv (i + 1), ct := Pv (i + 1), bk := D.nx } sg2 H2)
    (last : ∀ sg H, Pv xs.length sg H → D.nx sg H) :
    ∃ W : Nat → Nat → L2.St → Hp → Prop, (∃ m, W 0 m sg H) ∧ ∀ i m sg H, W i m sg H →
      ((Ite K a).stop i H ∧ D.nx sg H) ∨ ((Ite K a).go i H ∧ ∃ N : L2.St → Hp → Prop, (∀ s' H', N s' H' → ∃ m', m' < m ∧ W (i + 1) m' s' H') ∧
        ∀ x H', (Ite K a).yld i H x H' → g x sg H' fun sg2 H2 => tb { D with nx := N, ct := N, bk := D.nx } sg2 H2) := by
  refine ⟨fun i m s H => m = xs.length - i ∧ i ≤ xs.length ∧ Pv i s H, ⟨xs.length, rfl, Nat.zero_le _, start⟩, ?_⟩
  rintro i m s H ⟨em, le, p⟩
  have sq := stays i s H le p
  rcases Nat.lt_or_ge i xs.length with lt | ge
  · have at1 : xs[i]? = some xs[i] := List.getElem?_eq_getElem lt
    refine Or.inr ⟨⟨xs, xs[i], sq, at1⟩, Pv (i + 1), ?_, ?_⟩
    · intro s' H' p'
      exact ⟨xs.length - (i + 1), by omega, rfl, lt, p'⟩
    · rintro x H' ⟨T, y, e1, nT, e2, f⟩
      have ey := f xs sq
      subst e1 e2
      exact turn i y s H T ey p nT
  · have e : i = xs.length := by omega
    subst e
    exact Or.inl ⟨⟨xs, sq, Nat.le_refl _⟩, last s H p⟩
end My
namespace My
open PySem PySem.Spec PyProof.Rows L2 LamX

/-! the law's end where some defs hold a lambda: cs tells their code objects and the tables of these -/
theorem endGT {P : Program} {w : World} {K : PySem.W.Frag} {mg mb : Str → Option Value} {k : Nat} {fa a : Addr} {fd : FuncData} {x : Str} {sp : Sp}
    {s1 : Shared} {us : List Value} {ns : List Int} {cs : List (Addr × Addr)} (KX : K.In s1.heap) (hns : s1.heap.Ns mainGlobals mg) (hb : s1.heap.Ns builtinsNs mb)
    (hbb : ∀ x : Str, x ≠ "__name__" → mb x = bootBuiltins x) (hlim : s1.heap.NoLimit) (hg : s1.gens = #[])
    (hT : ∀ p ∈ cs, s1.heap.get? p.2 = some { cls := .none, data := .fields #[] }) (nT : ∀ p ∈ cs, K.lookup p.2 = none) (hC : ∀ p ∈ cs, PySem.W.CodeHd s1.heap p.1 p.2)
    (hbm : ∃ (bm : Addr) (ob : Obj), mg "__builtins__" = some (.ref bm) ∧ bm ≠ builtinsNs ∧ s1.heap.get? bm = some ob ∧ ob.cls = .type "module" ∧
      ob.dict = some builtinsNs ∧ ob.data = .plain)
    (ha : s1.heap.get? a = some { cls := .type "list", data := .seq us.toArray }) (hi : IntsAre us ns) (hl : ns.length ≤ sizeLine)
    (room : Room k callerA) (F : ∀ base : Heap, K.In base → base.Ns mainGlobals mg → (∀ p ∈ cs, TabB base mg p.1 p.2) → FnG P w K mg base k fa fd [x] sp)
    (bi : ∀ (s : Shared) (u : Value), BindsTo s fd ⟨[u], []⟩ [(x, u)])
    (want : ∀ H : Hp, (∀ p ∈ cs, H p.2 = some (.tbl #[])) → SqL K H a (ns.map V.int) → sp [.ref a] H (fun v _ => v = .bl true) fun _ _ _ => False) :
    codeAny (model P w) callerA (.call (.ref fa) ⟨[.ref a], []⟩)
      (fun r s' => r = .ok (.ret (.bool true)) ∧ OldK s1.heap s'.heap ∧ s'.os = s1.os ∧ AllBare s'.gens) s1 := by
  have rv := vals_ints hi
  have emp : ∀ b : Addr, b ∈ cs.map (·.2) → s1.heap.get? b = some { cls := .none, data := .fields #[] } := by
    intro b hb
    obtain ⟨p, hp, rfl⟩ := List.mem_map.mp hb
    exact hT p hp
  have aNot : a ∉ cs.map (·.2) := by
    intro z
    have y := emp a z
    rw [ha] at y
    cases (show Data.seq us.toArray _ = Data.fields #[] from congrArg Obj.data (Option.some.inj y))
  have main : ∀ H : Hp, (∀ p ∈ cs, H p.2 = some (.tbl #[])) → (∀ b, H b = none ∨ b ∈ cs.map (·.2) ∨ ∃ o xs, H b = some (.frz o (.lst xs))) → SqL K H a (ns.map V.int) →
      HOk P w H s1.heap → (∀ b, H b ≠ none → b = a ∨ b ∈ cs.map (·.2)) → (H a ≠ none → K.lookup a = none) →
      codeAny (model P w) callerA (.call (.ref fa) ⟨[.ref a], []⟩)
        (fun r s' => r = .ok (.ret (.bool true)) ∧ OldK s1.heap s'.heap ∧ s'.os = s1.os ∧ AllBare s'.gens) s1 := by
    intro H atT only hS hok hA hK
    have free : ∀ {b : Addr} {o : Obj}, s1.heap.get? b = some o → (∀ v n, o.data ≠ .seq v n) → o.data ≠ .fields #[] → H b = none := by
      intro b o e d1 d2
      by_cases z : H b = none
      · exact z
      · rcases hA b z with y | y
        · rw [y, ha] at e
          cases e
          exact absurd rfl (d1 _ _)
        · rw [emp b y] at e
          cases e
          exact absurd rfl d2
    have dictFree : ∀ {b : Addr} {o : Obj} {es : Array DictEntry} {ep : Nat}, s1.heap.get? b = some o → o.data = .dict es ep → H b = none := by
      intro b o es ep e d
      refine free e ?_ ?_
      · intro v n z; rw [d] at z; cases z
      · intro z; rw [d] at z; cases z
    have over : ∀ {b : Addr} {m : Str → Option Value}, s1.heap.Ns b m → (hidT s1.heap H).Ns b m := by
      rintro b m ⟨o, es, ep, e, d, r⟩
      exact ⟨o, es, ep, hidT_get e (dictFree e d), d, r⟩
    have KB : K.In (hidT s1.heap H) := by
      intro b o e
      refine hidT_get (KX b o e) ?_
      by_cases z : H b = none
      · exact z
      · rcases hA b z with y | y
        · rw [y] at z e
          rw [hK z] at e
          cases e
        · obtain ⟨p, hp, rfl⟩ := List.mem_map.mp y
          rw [nT p hp] at e
          cases e
    have M : L2.Mod K mg (hidT s1.heap H) := by
      obtain ⟨mc, l1, l2⟩ := hlim
      exact ⟨KB, over hns, ⟨mb, over hb, hbb⟩, ⟨mc, over l1, l2⟩⟩
    have TB : ∀ p ∈ cs, TabB (hidT s1.heap H) mg p.1 p.2 := by
      intro p hp
      have tp := hT p hp
      refine ⟨?_, ?_, ?_⟩
      · obtain ⟨o, vs, file, tf, flags, tg, inF, text, tt, e1, r1, r2, r3, rest⟩ := hC p hp
        refine ⟨o, vs, file, tf, flags, tg, inF, text, tt, hidT_get e1 (free e1 ?_ ?_), r1, r2, r3, rest⟩
        · intro v n z; rw [r2] at z; cases z
        · intro z
          rw [r2] at z
          cases z
          simp at r3
      · obtain ⟨bm, ob, m1, m2, m3, m4, m5, m6⟩ := hbm
        have n1 : bm ≠ mainGlobals := by
          intro z
          obtain ⟨o, es, ep, e, d, _⟩ := hns
          rw [z, e] at m3
          cases m3
          rw [d] at m6
          cases m6
        have n2 : bm ≠ p.2 := by
          intro z
          rw [z, tp] at m3
          cases m3
          cases m6
        refine ⟨bm, ob, m1, m2, n1, n2, hidT_get m3 (free m3 ?_ ?_), m4, m5, m6⟩
        · intro v n z; rw [m6] at z; cases z
        · intro z; rw [m6] at z; cases z
      · intro z
        obtain ⟨o, es, ep, e, d, _⟩ := hns
        rw [z, tp] at e
        cases e
        cases d
    have E0' : Env0 P w K mg (hidT s1.heap H) callerA [] s1 H :=
      ⟨rfl, M, fun b o e => of_hidT e, Nat.le_of_eq (hidT_size _ _), trivial, (fun b hb => nomatch (show b ∈ ([] : List Addr) from hb)), hok, .of_eq hg⟩
    refine codeAny_mono ((F _ KB (over hns) TB).run callerA [] s1 H ⟨[.ref a], []⟩ [.ref a] [.ref a] _ _ room rfl E0' (bi s1 (.ref a)) (.cons rfl .nil) (want H atT hS)) ?_
    intro r s' z
    cases r with
    | error e => exact False.elim z
    | ok fl =>
      cases fl with
      | next => exact False.elim z
      | brk => exact False.elim z
      | cont => exact False.elim z
      | ret u =>
        obtain ⟨v, H', os, bare, un, hok2, r1, q⟩ := z
        have q1 : v = .bl true := q
        subst q1
        have q2 : u = Value.bool true := r1
        subst q2
        have old : ∀ b o, b ∉ cs.map (·.2) → s1.heap.get? b = some o → s'.heap.get? b = some o := by
          intro b o nb e
          rcases only b with n | n | ⟨ob, xs, n⟩
          · exact un.keep b o e n (fun y => nomatch (show b ∈ ([] : List Addr) from y)) (fun y => nomatch y)
          · exact absurd n nb
          · obtain ⟨e1, _⟩ := hok b _ n
            obtain ⟨e2, _⟩ := hok2 b _ (un.frzs b ob _ n)
            rw [e] at e1
            cases e1
            exact e2
        have grown : ∀ p ∈ cs, ∃ more : Array Value, s'.heap.get? p.2 = some { cls := .none, data := .fields more } := by
          intro p hp
          obtain ⟨more, y⟩ := un.tbls p.2 #[] (atT p hp)
          exact ⟨_, hok2 p.2 _ y⟩
        refine ⟨rfl, ⟨?_, ?_⟩, os, bare⟩
        · intro b o e
          by_cases y : b ∈ cs.map (·.2)
          · obtain ⟨p, hp, rfl⟩ := List.mem_map.mp y
            obtain ⟨more, hm⟩ := grown p hp
            rw [hT p hp] at e
            cases e
            exact Or.inr (Or.inl ⟨((hC p hp).tab (hT p hp)).isCodeTable, rfl, #[], more, rfl, by rw [Array.empty_append]; exact hm⟩)
          · exact Or.inl (old b o y e)
        · intro b o e
          by_cases y : b ∈ cs.map (·.2)
          · obtain ⟨p, hp, rfl⟩ := List.mem_map.mp y
            obtain ⟨more, hm⟩ := grown p hp
            exact ⟨_, hm⟩
          · exact ⟨o, old b o y e⟩
  have inT : ∀ p ∈ cs, p.2 ∈ cs.map (·.2) := fun p hp => List.mem_map.mpr ⟨p, hp, rfl⟩
  cases hk : K.lookup a with
  | some o =>
    have e := KX a o hk
    rw [ha] at e
    cases e
    have t1 : ∀ b, b ∈ cs.map (·.2) → (fun b => if b ∈ cs.map (·.2) then some (HO.tbl #[]) else none : Hp) b = some (.tbl #[]) := fun b z => if_pos z
    have t2 : ∀ b, b ∉ cs.map (·.2) → (fun b => if b ∈ cs.map (·.2) then some (HO.tbl #[]) else none : Hp) b = none := fun b z => if_neg z
    refine main (fun b => if b ∈ cs.map (·.2) then some (HO.tbl #[]) else none) (fun p hp => t1 _ (inT p hp)) ?_ (Or.inr ⟨_, us.toArray, _, hk, rfl, rfl, rfl, ?_, ?_⟩) ?_ ?_ ?_
    · intro b
      by_cases z : b ∈ cs.map (·.2)
      · exact Or.inr (Or.inl z)
      · exact Or.inl (t2 b z)
    · rw [List.size_toArray, hi.length]; exact hl
    · simpa using rv
    · intro b u z
      by_cases y : b ∈ cs.map (·.2)
      · rw [t1 b y] at z
        cases z
        exact emp b y
      · rw [t2 b y] at z; cases z
    · intro b z
      by_cases y : b ∈ cs.map (·.2)
      · exact Or.inr y
      · exact absurd (t2 b y) z
    · intro z; exact absurd (t2 a aNot) z
  | none =>
    have at_a : (fun b => if b = a then some (HO.frz { cls := .type "list", data := .seq us.toArray } (.lst (ns.map V.int))) else if b ∈ cs.map (·.2) then some (HO.tbl #[]) else none : Hp) a
      = some (HO.frz { cls := .type "list", data := .seq us.toArray } (.lst (ns.map V.int))) := if_pos rfl
    have t1 : ∀ b, b ∈ cs.map (·.2) → (fun b => if b = a then some (HO.frz { cls := .type "list", data := .seq us.toArray } (.lst (ns.map V.int))) else if b ∈ cs.map (·.2) then some (HO.tbl #[]) else none : Hp) b
      = some (.tbl #[]) := fun b z => (if_neg (fun y => aNot (by rw [← y]; exact z))).trans (if_pos z)
    have t2 : ∀ b, b ≠ a → b ∉ cs.map (·.2) → (fun b => if b = a then some (HO.frz { cls := .type "list", data := .seq us.toArray } (.lst (ns.map V.int))) else if b ∈ cs.map (·.2) then some (HO.tbl #[]) else none : Hp) b
      = none := fun b y z => (if_neg y).trans (if_neg z)
    refine main (fun b => if b = a then some (HO.frz { cls := .type "list", data := .seq us.toArray } (.lst (ns.map V.int))) else if b ∈ cs.map (·.2) then some (HO.tbl #[]) else none)
      (fun p hp => t1 _ (inT p hp)) ?_ (Or.inl (Or.inr ⟨_, at_a⟩)) ?_ ?_ (fun _ => hk)
    · intro b
      by_cases z : b = a
      · subst z; exact Or.inr (Or.inr ⟨_, _, at_a⟩)
      · by_cases y : b ∈ cs.map (·.2)
        · exact Or.inr (Or.inl y)
        · exact Or.inl (t2 b z y)
    · intro b u z
      by_cases y : b = a
      · subst y
        rw [at_a] at z
        cases z
        exact ⟨ha, by rw [List.length_map]; exact hl, us, _, rv, ha⟩
      · by_cases y2 : b ∈ cs.map (·.2)
        · rw [t1 b y2] at z
          cases z
          exact emp b y2
        · rw [t2 b y y2] at z; cases z
    · intro b z
      by_cases y : b = a
      · exact Or.inl y
      · by_cases y2 : b ∈ cs.map (·.2)
        · exact Or.inr y2
        · exact absurd (t2 b y y2) z

/-- what is known of the code object of the def nm, and of its table, where the law begins -/
def TabOf (K : PySem.W.Frag) (mg : Str → Option Value) (h : Heap) (nm : Str) : Prop :=
  ∀ (f c Q : Addr) (o : Obj) (fd : FuncData) (e : Value) (dd : Option Addr) (vs : Array Value) (sl : Array (Option Value)), mg nm = some (.ref f) → K.lookup f = some o → o.data = .func fd → fd.code = .ref c →
    K.lookup c = some ⟨e, dd, .fields vs, sl⟩ → vs[11]? = some (.ref Q) → h.get? Q = some { cls := .none, data := .fields #[] } ∧ PySem.W.CodeHd h c Q
theorem walkGT {l : PySem.W.OpenLaw} {n k : Nat} {q : Program} {loose : List Str} {XP : (Str → Option Value) → Heap → Prop} {YP : World → Heap → Prop}
    {d : DefRec} {K : Params → PySem.W.Frag} {x : Str} (hn : l.most = some n) (hn2 : n ≤ sizeLine) (hdf : d.params.defaults = [])
    (room : Room k callerA) (hY : ∀ (w : World) (h : Heap), YP w h → (K w.params).In h)
    (F : ∀ (w : World) (mg : Str → Option Value) (fa : Addr) (h : Heap), (K w.params).In h → h.Ns mainGlobals mg → mg d.name = some (.ref fa) →
      (∀ nm : Str, ((recsOf q).any fun e => e.name == nm) = true → TabOf (K w.params) mg h nm) →
      ∃ (fd : FuncData) (cs : List (Addr × Addr)) (sp : Sp), (∀ p ∈ cs, h.get? p.2 = some { cls := .none, data := .fields #[] }) ∧ (∀ p ∈ cs, (K w.params).lookup p.2 = none) ∧ (∀ p ∈ cs, PySem.W.CodeHd h p.1 p.2) ∧
        (∀ (s : Shared) (u : Value), BindsTo s fd ⟨[u], []⟩ [(x, u)]) ∧
        (∀ (H : Hp) (a : Addr) (ns : List Int), ns.length ≤ n → (∀ p ∈ cs, H p.2 = some (.tbl #[])) → SqL (K w.params) H a (ns.map V.int) → sp [.ref a] H (fun v _ => v = .bl true) fun _ _ _ => False) ∧
        ∀ base : Heap, (K w.params).In base → base.Ns mainGlobals mg → (∀ p ∈ cs, TabB base mg p.1 p.2) → FnG l.prog w (K w.params) mg base k fa fd [x] sp) :
    PySem.W.WalkO q loose XP YP l.row.toRowW d [] (fun f vs => PySem.call f vs) := by
  refine Att.attach_call hn hdf ?_
  intro w s0 s1 mg mb fa o pm cd doc a us ns G Y ho hd hcd hmg hobj hints hlen hg
  have KX := hY w _ Y
  have tabs : ∀ nm : Str, ((recsOf q).any fun e => e.name == nm) = true → TabOf (K w.params) mg s1.heap nm := by
    intro nm hr f c Q o1 fd1 e dd vs sl k0 k1 k2 k3 k4 k5
    obtain ⟨dL, hm, hq⟩ := List.any_eq_true.mp hr
    have en : dL.name = nm := beq_iff_eq.mp hq
    obtain ⟨a', o', fd', c', P', h1, h2, h3, h4, h5, h6⟩ := G.T.tab dL hm
    rw [en, k0] at h1
    cases h1
    have g1 := KX _ _ k1
    rw [g1] at h2
    cases h2
    rw [k2] at h3
    cases h3
    rw [k3] at h4
    cases h4
    obtain ⟨⟨oc, vc, e1, e2, e3, e4⟩, hP⟩ := id h6
    have g2 := KX _ _ k4
    rw [g2] at e1
    cases e1
    cases e3
    rw [k5] at e4
    cases e4
    exact ⟨hP, PySem.W.CodeHd.of h5 h6⟩
  obtain ⟨fd, cs, sp, t1, t2, t3, b1, wt, b2⟩ := F w mg fa _ KX G.T.g hmg tabs
  exact endGT KX G.T.g G.T.b G.T.builtins G.T.nolimit hg t1 t2 t3 G.T.bmain hobj hints (Nat.le_trans hlen hn2) room b2 b1 (fun H hH hS => wt H a ns hlen hH hS)
end My
namespace My
open PySem PySem.Spec PyProof.Rows L2 LamX

theorem ar_srt (a f : Value) : argsOk "sorted" ⟨[a], [(Str.ofString "key", f)]⟩ := by unfold argsOk; kernel_rfl
theorem ar_ls (a f : Value) : argsOk "list.sort" ⟨[a], [(Str.ofString "key", f)]⟩ := by unfold argsOk; kernel_rfl

/-! the key: a lambda that gives the first item of its row -/
theorem first_call {prog : Program} {w : World} {A : Around} {s : Shared} {f c' t : Addr} {q nm : Str} {params : Arguments} {scope : Scope} {pm ctv : Value} {p1 p2 p3 : Pos} {jj : Nat}
    {its : Array Value} {z : Int} {tz : Tok} (room : A.depth < recursionLimit) (nl : s.heap.NoLimit)
    (hf : s.heap.get? f = some (PySem.W.kla_obj "<lambda>" q params (.Subscript (.Name nm p1) (.Constant (.int 0) jj p2) p3) scope [] pm c' ctv))
    (hc : ∃ (oc : Obj) (vs : Array Value) (tq : Tok), s.heap.get? c' = some oc ∧ oc.data = .fields vs ∧ vs[1]? = some (.str q tq))
    (kk : scope.kind = .function) (k2 : scope.isCoroutine = false) (k3 : scope.isGenerator = false) (names : scope.names = [(nm, .local)])
    (hd : (nm == ("__debug__" : Str)) = false)
    (hbind : ∀ (q : Str) (cl : List (Str × Addr)) (pm cv ctv v : Value), bindArgs (PySem.W.kla_fn "<lambda>" q params (.Subscript (.Name nm p1) (.Constant (.int 0) jj p2) p3) scope cl pm cv ctv) ⟨[v], []⟩ = pure [(nm, v)])
    (ht : IsTup s.heap t its) (h0 : its[0]? = some (.int z tz)) :
    wpAny (model prog w) A (call (.ref f) [.ref t]) (PySem.W.KeyPure (.int z) s) (fun _ _ => False) s := by
  obtain ⟨oc, vs, tq, c1, c2, c3⟩ := hc
  refine wpAny_call ?_
  refine PySem.W.kla_callFunE room hf rfl k2 k3 rfl ⟨c', oc, vs, tq, rfl, c1, c2, c3⟩ ?_
  rw [hbind]
  refine wpAny_pure ?_
  refine wpAny_newFunctionEnv ?_ ?_ ?_ kk
  · intro x hx z
    rw [names] at hx
    have e : x = (nm, .local) := by simpa using hx
    rw [e] at z
    cases z
  · intro x hx
    have e : x = (nm, .ref t) := by simpa using hx
    rw [e, names]
    simp
  intro h1 hns hsb
  have kp : ∀ b o, s.heap.get? b = some o → h1.get? b = some o := fun b o e => hsb.extBut b o (Nat.ne_of_lt (Heap.lt_size e)) (Heap.get?_push_of_some _ e)
  refine ⟨nl.fresh _ hsb, ?_⟩
  refine PySem.W.kla_codeExpr ?_
  have look : ([(nm, Value.ref t)] : List (Str × Value)).reverse.lookup nm = some (.ref t) := by simp
  refine Subscript_ (wpAny_Name (wpAny_loadName_local kk ?_ hns look ?_) hd)
  · show scope.names.lookup nm = some .local
    rw [names]
    simp
  refine wpAny_Constant_int ?_
  have ht1 : IsTup h1 t its := by
    obtain ⟨ob, e, r⟩ := ht
    exact ⟨ob, kp _ _ e, r⟩
  have lt0 : 0 < its.size := by
    rcases Nat.lt_or_ge 0 its.size with y | y
    · exact y
    · rw [Array.getElem?_eq_none y] at h0
      cases h0
  refine subscriptTail_builtinR (x := .int z tz) ht1.typeIs slot_tuple_getitem.lookup ?_
  refine PyProof.Rows.getItem_tuple ht1 (by decide) (by decide) (PySem.seqIndex_of (k := 0) (n := its.size) (by decide) (by omega)) h0 ⟨rfl, ?_⟩
  exact ⟨h1, _, rfl, kp, .int z tz⟩

def tSrt (K : PySem.W.Frag) (T : List (Addr × Str)) (ta : TA) : TE := fun sg H Q => ta sg H fun vs H1 => ∃ (a : Addr) (xs : List V) (kf : V → Int), vs = [.ref a] ∧ SqL K H1 a xs ∧ Tabs T H1 ∧ xs.length ≤ 4000 ∧
  (∀ v ∈ xs, ∃ t r, v = .ref t ∧ H1 t = some (.tup (.int (kf v) :: r))) ∧
  ∀ (ys : List V) (p : Addr) (H2 : Hp), ys.Perm xs → ys.Pairwise (fun x y => kf x ≤ kf y) → ExtN H1 H2 → Tabs T H2 → H2 p = none → Q (.ref p) (upd H2 p (.lst ys))
theorem each_vals {α : Type} {R : Value → V → Prop} (hR : ∀ u v, RelV v u → R u v) : ∀ {xs : List V} {us : List Value}, Vals xs us → PySem.W.EachIs R us xs
  | _, _, .nil => .nil
  | _, _, .cons r t => .cons (hR _ _ r) (each_vals (α := α) hR t)
theorem vals_each {R : Value → V → Prop} (hR : ∀ u v, R u v → RelV v u) : ∀ {xs : List V} {us : List Value}, PySem.W.EachIs R us xs → Vals xs us
  | _, _, .nil => .nil
  | _, _, .cons r t => .cons (hR _ _ r) (vals_each hR t)
theorem pe_srt {X : Cx} {T : List (Addr × Str)} {c P : Addr} {p pos kpos lpos : Pos} {e : Expr} {ta : TA} {params : Arguments} {scope : Scope} {nm : Str} {p1 p2 p3 : Pos} {jj : Nat}
    (hg : Gl X "sorted") (hm : X.mg "sorted" = none) (ha : PA X [e] ta) (TB : TabB X.base X.mg c P) (hcode : X.env.code = .ref c)
    (hmem : (P, X.env.qual ++ "<lambda>") ∈ T) (hu : ∀ p ∈ T, p.1 = P → p.2 = X.env.qual ++ "<lambda>") (room : Room 2 X.A) (hdef : defaultsOf params X.env = ([], []))
    (kk : scope.kind = .function) (k2 : scope.isCoroutine = false) (k3 : scope.isGenerator = false) (names : scope.names = [(nm, .local)]) (hd : (nm == ("__debug__" : Str)) = false)
    (hbind : ∀ (q : Str) (cl : List (Str × Addr)) (pm cv ctv v : Value), bindArgs (PySem.W.kla_fn "<lambda>" q params (.Subscript (.Name nm p1) (.Constant (.int 0) jj p2) p3) scope cl pm cv ctv) ⟨[v], []⟩ = pure [(nm, v)])
    (he : backTo pos (starEach [e] X.env) = (false, eval e X.env) :: backTo pos (starEach [] X.env) := by rfl) (hpl : (backTo pos (starEach [e] X.env)).any (·.1) = false := by rfl)
    (hall : (backToKw pos (keywordEach [⟨some "key", .Lambda params (.Subscript (.Name nm p1) (.Constant (.int 0) jj p2) p3) scope lpos, kpos⟩] X.env)).all (·.1.isSome) = true := by rfl)
    (hnone : (backToKw pos (keywordEach [⟨some "key", .Lambda params (.Subscript (.Name nm p1) (.Constant (.int 0) jj p2) p3) scope lpos, kpos⟩] X.env)).any (·.1.isNone) = false := by rfl)
    (hks : (backToKw pos (keywordEach [⟨some "key", .Lambda params (.Subscript (.Name nm p1) (.Constant (.int 0) jj p2) p3) scope lpos, kpos⟩] X.env)).filterMap (·.1) = [Str.ofString "key"] := by rfl) :
    PE X (.Call (.Name "sorted" p) [e] [⟨some "key", .Lambda params (.Subscript (.Name nm p1) (.Constant (.int 0) jj p2) p3) scope lpos, kpos⟩] pos) (tSrt X.K T ta) := by
  refine ⟨fun pins s sg H Q I want => ?_⟩
  refine wpAny_Call_Name_kw (ld_blt I hg hm (by decide +kernel : bootBuiltins "sorted" = some (.builtin "sorted")) ?_)
  refine PyProof.Rows.callWith_kw (thn (ha.run pos pins s sg H _ I want) ?_) he hpl hall hnone
  rintro us s1 ⟨vs, H1, I1, rv, a, xs, kf, rfl, hq, hT, hlen, hrow, q⟩
  obtain ⟨u, rfl, ru⟩ := rv.one
  have ru' : u = Value.ref a := ru
  subst ru'
  rw [hks]
  show wpAny _ _ (evalAll ((do let v ← eval (.Lambda params (.Subscript (.Name nm p1) (.Constant (.int 0) jj p2) p3) scope lpos) X.env; standAt pos; pure v) :: [])) _ _ s1
  refine wpAny_evalAll_cons (wpAny_bind ?_)
  have nofree : ∀ y ∈ scope.names, y.2 = .free → ∃ c, X.env.cells.lookup y.1 = some c := by
    intro y hy z
    rw [names] at hy
    have ey : y = (nm, .local) := by simpa using hy
    rw [ey] at z
    cases z
  refine lam_make2 I1 TB hcode hmem hu hT hdef nofree ?_
  intro f c' pm ctv H2 s2 I2 ext T2 hf hfn hfr hco
  refine wpAny_bind (wpAny_standAt (wpAny_pure (wpAny_evalAll_nil ?_)))
  have noclo : cloFrom X.env.cells scope.names [] = [] := by rw [names]; rfl
  rw [noclo] at hf
  have keepL : SqL X.K H2 a xs := by
    rcases hq with (h | ⟨o, h⟩) | h
    · exact Or.inl (Or.inl (ext _ _ h (fun ps z => nomatch z)))
    · exact Or.inl (Or.inr ⟨o, ext _ _ h (fun ps z => nomatch z)⟩)
    · exact Or.inr h
  have rowAt : ∀ v ∈ xs, ∃ t r, v = .ref t ∧ H2 t = some (.tup (.int (kf v) :: r)) := by
    intro v hv
    obtain ⟨t, r, e1, e2⟩ := hrow v hv
    exact ⟨t, r, e1, ext _ _ e2 (fun ps z => nomatch z)⟩
  obtain ⟨its, rv2, pl, hz⟩ := I2.list keepL
  obtain ⟨⟨oc, ovs, tq, c1, c2, c3⟩, _, _⟩ := I2.hok c' _ hco
  show wpAny _ _ (call (.builtin "sorted") [.ref a] [(Str.ofString "key", .ref f)]) _ _ s2
  have alike1 : ∀ x y : Int, PySem.W.alike (.int x) (.int y) = true := fun x y => by simp [PySem.W.alike]
  refine PySem.W.sorted_key_data (b := false) (R := fun u v => RelV v u) (vs := its) (bs := xs) (fun v => PyData.int (kf v)) pl.isList (each_vals (α := Nat) (fun u v r => r) rv2) ?_ ?_ hz ?_
    (ar_srt _ _) (fun x => ar_ls _ _) (fun x => rfl) ?_ ?_
  · intro d hd2 d' hd3
    obtain ⟨v, _, rfl⟩ := List.mem_map.mp hd2
    obtain ⟨v', _, rfl⟩ := List.mem_map.mp hd3
    exact alike1 _ _
  · refine Or.inr ?_
    intro d hd2
    obtain ⟨v, _, rfl⟩ := List.mem_map.mp hd2
    exact ⟨(fun z => nomatch z), (fun xs z => nomatch z)⟩
  · intro x hx
    have h1 := room.un
    have h2 : (PyData.int (kf x)).depth ≤ 2 := by simp [PyData.depth]
    omega
  · intro v x rx hx h tk kp
    obtain ⟨t, r, rfl, hrt⟩ := rowAt x hx
    have ev : v = Value.ref t := rx
    subst ev
    obtain ⟨its2, rv3, pt, _⟩ := I2.tuple (SqT.of hrt)
    obtain ⟨u0, hu0, ru0⟩ := rv3.get (i := 0) rfl
    obtain ⟨tz, rfl⟩ := ru0
    refine first_call (s := { s2 with heap := h, toks := tk }) ?_ (I2.nolimit.keeps kp) (kp _ _ hf) ⟨oc, ovs, tq, kp _ _ c1, c2, c3⟩ kk k2 k3 names hd hbind (its := its2.toArray) (z := kf (.ref t)) (tz := tz) ?_ ?_
    · have h1 := room.dp
      show X.A.depth < recursionLimit
      omega
    · obtain ⟨ob, e, r2⟩ := pt
      exact ⟨ob, kp _ _ e, r2⟩
    · simpa using hu0
  · intro out c h' tk kp fr hD hl each
    have hz2 : (xs.mergeSort (PySem.W.dataLe false fun v => PyData.int (kf v))).length ≤ sizeLine := by rw [List.length_mergeSort]; exact hz
    have rel : Vals (xs.mergeSort (PySem.W.dataLe false fun v => PyData.int (kf v))) out := vals_each (fun u v r => r) each
    have free : H2 (s2.heap.objs.size + 1) = none := I2.hok.fresh (Nat.le_succ _)
    refine ⟨.ref (s2.heap.objs.size + 1), upd H2 (s2.heap.objs.size + 1) (.lst (xs.mergeSort (PySem.W.dataLe false fun v => PyData.int (kf v)))), I2.laid kp (Nat.le_succ _) ⟨hz2, out, c, rel, hD⟩, rfl, ?_⟩
    refine q _ _ H2 (List.mergeSort_perm _ _) ?_ ext T2 free
    rw [PySem.W.dataLe_int]
    have z := List.pairwise_mergeSort (le := fun (a b : V) => decide (kf a ≤ kf b)) (by intro a b c h1 h2; have h3 := of_decide_eq_true h1; have h4 := of_decide_eq_true h2; exact decide_eq_true (by omega))
      (by intro a b; rcases Int.le_total (kf a) (kf b) with h | h <;> simp [h]) xs
    exact z.imp fun h => of_decide_eq_true h
end My
namespace My
open PySem PySem.Spec PyProof.Rows L2

abbrev hd (b : List Int) : Int := b.headD 0
/-! cutting what is put together -/
theorem foldl_put : ∀ (y : List Int) (bs cs : List (List Int)), cs ≠ [] → y.foldl put (bs ++ cs) = bs ++ y.foldl put cs
  | [], _, _, _ => rfl
  | n :: y, bs, cs, h => by
    obtain ⟨ini, l, e⟩ : ∃ ini l, cs = ini ++ [l] := by
      rcases List.eq_nil_or_concat cs with z | ⟨a, b, z⟩
      · exact absurd z h
      · exact ⟨a, b, by rw [z, List.concat_eq_append]⟩
    have e1 : put (bs ++ cs) n = bs ++ put cs n := by
      rw [e, ← List.append_assoc, put_snoc, put_snoc]
      split <;> simp
    have e2 : put cs n ≠ [] := by
      rw [e, put_snoc]
      split <;> simp
    show y.foldl put (put (bs ++ cs) n) = bs ++ y.foldl put (put cs n)
    rw [e1]
    exact foldl_put y bs (put cs n) e2
theorem cut_app {x y : List Int} (h : ∀ m r, y = m :: r → ∀ z ∈ x, z < m) : cut (x ++ y) = cut x ++ cut y := by
  cases y with
  | nil => simp [cut]
  | cons m r =>
    have hx := h m r rfl
    have e1 : put (cut x) m = cut x ++ [[m]] := by
      refine put_new ?_
      rcases (good_cut x).last with e | ⟨ini, k, l, e, hk, _⟩
      · exact Or.inl e
      · exact Or.inr ⟨ini, k, l, e, hx k hk⟩
    have e2 : cut (x ++ m :: r) = r.foldl put (put (cut x) m) := by
      unfold cut
      rw [List.foldl_append]
      rfl
    rw [e2, e1, foldl_put _ _ _ (by simp)]
    rfl
theorem cut_one {h : Int} : ∀ {a : List Int}, (∀ z ∈ a, z ≤ h) → ∀ pre : List Int, a.foldl put [h :: pre] = [h :: pre ++ a]
  | [], _, pre => by simp
  | n :: a, hz, pre => by
    have h1 : ¬ (h :: pre).headD 0 < n := by
      have := hz n (List.mem_cons_self ..)
      show ¬ h < n
      omega
    have e : put [h :: pre] n = [h :: (pre ++ [n])] := by
      have z := put_snoc [] (h :: pre) n
      rw [if_neg h1] at z
      exact z
    show a.foldl put (put [h :: pre] n) = _
    rw [e, cut_one (fun z hz2 => hz z (List.mem_cons_of_mem _ hz2)) (pre ++ [n])]
    simp
theorem cut_blk {h : Int} {a : List Int} (hz : ∀ z ∈ a, z ≤ h) : cut (h :: a) = [h :: a] := by
  have := cut_one hz []
  simpa [cut, put] using this
def lowr (h : Int) (t : List Int) : List Int := t.takeWhile fun z => decide (z ≤ h)
def uppr (h : Int) (t : List Int) : List Int := t.dropWhile fun z => decide (z ≤ h)
theorem low_up (h : Int) (t : List Int) : lowr h t ++ uppr h t = t := List.takeWhile_append_dropWhile
theorem low_le {h : Int} {t : List Int} : ∀ z ∈ lowr h t, z ≤ h := by
  induction t with
  | nil => intro z hz; simp [lowr] at hz
  | cons x t ih =>
    intro z hz
    unfold lowr at hz ih
    by_cases hx : x ≤ h
    · rw [List.takeWhile_cons_of_pos (by simpa using hx)] at hz
      rcases List.mem_cons.mp hz with e | e
      · rw [e]; exact hx
      · exact ih z e
    · rw [List.takeWhile_cons_of_neg (by simpa using hx)] at hz
      cases hz
theorem up_gt {h : Int} {t : List Int} : ∀ m r, uppr h t = m :: r → h < m := by
  induction t with
  | nil => intro m r e; simp [uppr] at e
  | cons x t ih =>
    intro m r e
    unfold uppr at e ih
    by_cases hx : x ≤ h
    · rw [List.dropWhile_cons_of_pos (by simpa using hx)] at e
      exact ih m r e
    · rw [List.dropWhile_cons_of_neg (by simpa using hx)] at e
      have := (List.cons.inj e).1
      omega
theorem up_len (h : Int) (t : List Int) : (uppr h t).length ≤ t.length := by
  have e := congrArg List.length (low_up h t)
  rw [List.length_append] at e
  omega
theorem cut_cons (h : Int) (t : List Int) : cut (h :: t) = (h :: lowr h t) :: cut (uppr h t) := by
  have e : h :: t = (h :: lowr h t) ++ uppr h t := by
    show h :: t = h :: (lowr h t ++ uppr h t)
    rw [low_up]
  rw [e, cut_app ?_, cut_blk low_le]
  · rfl
  · intro m r em z hz
    have hm := up_gt m r em
    rcases List.mem_cons.mp hz with e2 | e2
    · omega
    · have := low_le z e2
      omega
theorem cut_low (h : Int) (t : List Int) : cut t = cut (lowr h t) ++ cut (uppr h t) := by
  have e := low_up h t
  have := cut_app (x := lowr h t) (y := uppr h t) (fun m r em z hz => by
    have := up_gt m r em
    have := low_le z hz
    omega)
  rw [e] at this
  exact this
/-- the blocks of a list: heads ascend, each is the greatest of its block, none is less than the first number -/
theorem cut_facts : ∀ (n : Nat) (q : List Int), q.length ≤ n → (cut q).Pairwise (fun x y => hd x < hd y) ∧ (∀ b ∈ cut q, b ≠ [] ∧ ∀ x ∈ b, x ≤ hd b) ∧ ∀ b ∈ cut q, hd q ≤ hd b
  | 0, q, hn => by
    have e : q = [] := List.eq_nil_of_length_eq_zero (by omega)
    subst e
    simp [cut]
  | n + 1, [], hn => by simp [cut]
  | n + 1, h :: t, hn => by
    have hlen := up_len h t
    obtain ⟨i1, i2, i3⟩ := cut_facts n (uppr h t) (by rw [List.length_cons] at hn; omega)
    have above : ∀ b ∈ cut (uppr h t), h < hd b := by
      intro b hb
      have h3 := i3 b hb
      cases e : uppr h t with
      | nil => rw [e] at hb; simp [cut] at hb
      | cons m r =>
        have := up_gt m r e
        rw [e] at h3
        have h4 : m ≤ hd b := h3
        omega
    rw [cut_cons]
    refine ⟨List.pairwise_cons.mpr ⟨above, i1⟩, ?_, ?_⟩
    · intro b hb
      rcases List.mem_cons.mp hb with e | e
      · subst e
        refine ⟨by simp, fun x hx => ?_⟩
        rcases List.mem_cons.mp hx with e2 | e2
        · rw [e2]; exact Int.le_refl _
        · exact low_le x e2
      · exact i2 b e
    · intro b hb
      rcases List.mem_cons.mp hb with e | e
      · subst e; exact Int.le_refl _
      · have := above b e
        show h ≤ hd b
        omega
theorem cut_asc (q : List Int) : (cut q).Pairwise (fun x y => hd x < hd y) := (cut_facts q.length q (Nat.le_refl _)).1
theorem cut_mem {q b : List Int} (h : b ∈ cut q) : b ≠ [] ∧ ∀ x ∈ b, x ≤ hd b := (cut_facts q.length q (Nat.le_refl _)).2.1 b h
theorem cut_ge {q b : List Int} (h : b ∈ cut q) : hd q ≤ hd b := (cut_facts q.length q (Nat.le_refl _)).2.2 b h
theorem hd_mem {b : List Int} (h : b ≠ []) : hd b ∈ b := by
  cases b with
  | nil => exact absurd rfl h
  | cons x r => exact List.mem_cons_self ..
/-- blocks put together in ascending order are cut again into the same -/
theorem cut_flat : ∀ {bs : List (List Int)}, (∀ b ∈ bs, b ≠ [] ∧ ∀ x ∈ b, x ≤ hd b) → bs.Pairwise (fun x y => hd x < hd y) → cut bs.flatten = bs
  | [], _, _ => rfl
  | b :: bs, h, p => by
    obtain ⟨ne, mx⟩ := h b (List.mem_cons_self ..)
    obtain ⟨p1, p2⟩ := List.pairwise_cons.mp p
    cases b with
    | nil => exact absurd rfl ne
    | cons k r =>
      rw [List.flatten_cons, cut_app ?_, cut_flat (fun c hc => h c (List.mem_cons_of_mem _ hc)) p2, cut_blk]
      · rfl
      · exact fun z hz => mx z (List.mem_cons_of_mem _ hz)
      · intro m s em z hz
        cases bs with
        | nil => cases em
        | cons c cs =>
          obtain ⟨nc, _⟩ := h c (List.mem_cons_of_mem _ (List.mem_cons_self ..))
          have hc := p1 c (List.mem_cons_self ..)
          cases c with
          | nil => exact absurd rfl nc
          | cons k2 r2 =>
            have e : k2 = m := by
              rw [List.flatten_cons] at em
              exact (List.cons.inj em).1
            have h1 := mx z hz
            have h2 : k < k2 := hc
            have h3 : z ≤ k := h1
            omega
/-! sorting by the first number -/
def bySm {α : Type} (g : α → Int) (l : List α) : List α := l.mergeSort fun a b => decide (g a ≤ g b)
theorem by_perm {α : Type} (g : α → Int) (l : List α) : (bySm g l).Perm l := List.mergeSort_perm _ _
theorem by_sorted {α : Type} (g : α → Int) (l : List α) : (bySm g l).Pairwise fun a b => g a ≤ g b := by
  have z := List.pairwise_mergeSort (le := fun (a b : α) => decide (g a ≤ g b)) (by intro a b c h1 h2; have h3 := of_decide_eq_true h1; have h4 := of_decide_eq_true h2; exact decide_eq_true (by omega))
    (by intro a b; rcases Int.le_total (g a) (g b) with h | h <;> simp [h]) l
  exact z.imp fun h => of_decide_eq_true h
theorem sort_one {α : Type} {g : α → Int} : ∀ {xs ys : List α}, xs.Perm ys → (xs.map g).Nodup → xs.Pairwise (fun a b => g a ≤ g b) → ys.Pairwise (fun a b => g a ≤ g b) → xs = ys
  | [], ys, p, _, _, _ => (List.nil_perm.mp p).symm ▸ rfl
  | x :: xs, [], p, _, _, _ => absurd (List.perm_nil.mp p) (by simp)
  | x :: xs, y :: ys, p, nd, s1, s2 => by
    obtain ⟨a1, a2⟩ := List.pairwise_cons.mp s1
    obtain ⟨b1, b2⟩ := List.pairwise_cons.mp s2
    rw [List.map_cons] at nd
    obtain ⟨n1, n2⟩ := List.nodup_cons.mp nd
    have e : x = y := by
      have hx : x ∈ y :: ys := p.mem_iff.mp (List.mem_cons_self ..)
      have hy : y ∈ x :: xs := p.mem_iff.mpr (List.mem_cons_self ..)
      rcases List.mem_cons.mp hx with z | z
      · exact z
      · rcases List.mem_cons.mp hy with w | w
        · exact w.symm
        · have h1 := b1 x z
          have h2 := a1 y w
          have h3 : g y = g x := by omega
          exact absurd (List.mem_map.mpr ⟨y, w, h3⟩) n1
    subst e
    rw [sort_one (List.Perm.cons_inv p) n2 a2 b2]
theorem by_one {α : Type} {g : α → Int} {l ys : List α} (p : ys.Perm l) (nd : (l.map g).Nodup) (s : ys.Pairwise fun a b => g a ≤ g b) : ys = bySm g l :=
  sort_one (p.trans (by_perm g l).symm) ((p.map g).nodup_iff.mpr nd) s (by_sorted g l)
/-! merging -/
def cuts (qs : List (List Int)) : List (List Int) := qs.flatMap cut
def mrg (qs : List (List Int)) : List Int := (bySm hd (cuts qs)).flatten
theorem heads_sub : ∀ {bs : List (List Int)}, (∀ b ∈ bs, b ≠ []) → (bs.map hd).Sublist bs.flatten
  | [], _ => List.Sublist.refl _
  | [] :: bs, h => absurd rfl (h [] (List.mem_cons_self ..))
  | (x :: r) :: bs, h => by
    have ih := heads_sub (bs := bs) fun b hb => h b (List.mem_cons_of_mem _ hb)
    show (x :: bs.map hd).Sublist (x :: (r ++ bs.flatten))
    exact (ih.trans (List.sublist_append_right _ _)).cons_cons x
theorem cuts_flat : ∀ qs : List (List Int), (cuts qs).flatten = qs.flatten
  | [] => rfl
  | q :: qs => by
    show (cut q ++ cuts qs).flatten = q ++ qs.flatten
    rw [List.flatten_append, (good_cut q).flat, cuts_flat qs]
theorem cuts_mem {qs : List (List Int)} {b : List Int} (h : b ∈ cuts qs) : ∃ q ∈ qs, b ∈ cut q := by
  obtain ⟨q, hq, hb⟩ := List.mem_flatMap.mp h
  exact ⟨q, hq, hb⟩
theorem cuts_nd {qs : List (List Int)} (nd : qs.flatten.Nodup) : ((cuts qs).map hd).Nodup := by
  have h := heads_sub (bs := cuts qs) fun b hb => by
    obtain ⟨q, _, hq⟩ := cuts_mem hb
    exact (cut_mem hq).1
  rw [cuts_flat] at h
  exact nd.sublist h
theorem mrg_perm (qs : List (List Int)) : (mrg qs).Perm qs.flatten := by
  have h := (by_perm hd (cuts qs)).flatten
  rw [cuts_flat] at h
  exact h
theorem mrg_step {pre post : List (List Int)} {h : Int} {t : List Int} (nd : (pre ++ (h :: t) :: post).flatten.Nodup) (least : ∀ q, q ∈ pre ∨ q ∈ post → q ≠ [] → h < hd q) :
    mrg (pre ++ (h :: t) :: post) = h :: mrg (pre ++ t :: post) := by
  have nd2 : (pre ++ t :: post).flatten.Nodup := by
    refine nd.sublist ?_
    rw [List.flatten_append, List.flatten_append, List.flatten_cons, List.flatten_cons]
    exact List.Sublist.append (List.Sublist.refl _) (List.Sublist.append ((List.Sublist.refl t).cons h) (List.Sublist.refl _))
  have c1 : cuts (pre ++ (h :: t) :: post) = cuts pre ++ ((h :: lowr h t) :: cut (uppr h t)) ++ cuts post := by
    unfold cuts
    rw [List.flatMap_append, List.flatMap_cons, cut_cons, List.append_assoc]
  have c2 : cuts (pre ++ t :: post) = cuts pre ++ (cut (lowr h t) ++ cut (uppr h t)) ++ cuts post := by
    unfold cuts
    rw [List.flatMap_append, List.flatMap_cons, cut_low h t]
    simp only [List.append_assoc]
  have above : ∀ b ∈ cuts pre ++ cut (uppr h t) ++ cuts post, h < hd b := by
    have out : ∀ q b, (q ∈ pre ∨ q ∈ post) → b ∈ cut q → h < hd b := by
      intro q b hq hb
      have ne : q ≠ [] := by
        intro z
        rw [z] at hb
        simp [cut] at hb
      have := least q hq ne
      have := cut_ge hb
      omega
    intro b hb
    rcases List.mem_append.mp hb with z | z
    · rcases List.mem_append.mp z with y | y
      · obtain ⟨q, hq, hb2⟩ := cuts_mem y
        exact out q b (Or.inl hq) hb2
      · have h3 := cut_ge y
        cases e : uppr h t with
        | nil => rw [e] at y; simp [cut] at y
        | cons m r =>
          have := up_gt m r e
          rw [e] at h3
          have h4 : m ≤ hd b := h3
          omega
    · obtain ⟨q, hq, hb2⟩ := cuts_mem z
      exact out q b (Or.inr hq) hb2
  have po := by_perm hd (cuts pre ++ cut (uppr h t) ++ cuts post)
  have so := by_sorted hd (cuts pre ++ cut (uppr h t) ++ cuts post)
  have e1 : (h :: lowr h t) :: bySm hd (cuts pre ++ cut (uppr h t) ++ cuts post) = bySm hd (cuts (pre ++ (h :: t) :: post)) := by
    refine by_one ?_ (cuts_nd nd) ?_
    · rw [c1]
      refine (List.Perm.cons _ po).trans ?_
      rw [List.append_assoc, List.append_assoc]
      exact List.perm_middle.symm
    · refine List.pairwise_cons.mpr ⟨fun b hb => ?_, so⟩
      have := above b (po.mem_iff.mp hb)
      show h ≤ hd b
      omega
  have e2 : cut (lowr h t) ++ bySm hd (cuts pre ++ cut (uppr h t) ++ cuts post) = bySm hd (cuts (pre ++ t :: post)) := by
    refine by_one ?_ (cuts_nd nd2) ?_
    · rw [c2]
      refine (List.Perm.append_left _ po).trans ?_
      rw [← List.append_assoc, ← List.append_assoc, ← List.append_assoc]
      refine List.Perm.append_right _ ?_
      refine List.Perm.append_right _ ?_
      exact List.perm_append_comm
    · refine List.pairwise_append.mpr ⟨(cut_asc _).imp fun z => Int.le_of_lt z, so, fun a ha b hb => ?_⟩
      have h1 := above b (po.mem_iff.mp hb)
      have h2 : hd a ≤ h := by
        have hmem : hd a ∈ lowr h t := by
          have := (good_cut (lowr h t)).flat
          rw [← this]
          exact List.mem_flatten.mpr ⟨a, ha, hd_mem (cut_mem ha).1⟩
        exact low_le _ hmem
      omega
  unfold mrg
  rw [← e1, ← e2, List.flatten_cons, List.flatten_append, (good_cut (lowr h t)).flat]
  rfl
theorem mrg_none {qs : List (List Int)} (h : ∀ q ∈ qs, q = []) : mrg qs = [] := by
  have e : cuts qs = [] := by
    unfold cuts
    exact List.flatMap_eq_nil_iff.mpr fun q hq => by rw [h q hq]; rfl
  unfold mrg bySm
  rw [e]
  simp
theorem cut_mrg {qs : List (List Int)} (nd : qs.flatten.Nodup) : cut (mrg qs) = bySm hd (cuts qs) := by
  refine cut_flat ?_ ?_
  · intro b hb
    obtain ⟨q, _, hq⟩ := cuts_mem ((by_perm hd (cuts qs)).mem_iff.mp hb)
    exact cut_mem hq
  · have n1 : ((bySm hd (cuts qs)).map hd).Nodup := ((by_perm hd (cuts qs)).map hd).nodup_iff.mpr (cuts_nd nd)
    have n2 := List.pairwise_map.mp n1
    exact (List.pairwise_and_iff.mpr ⟨by_sorted hd (cuts qs), n2⟩).imp fun z => by
      obtain ⟨z1, z2⟩ := z
      omega
end My
namespace My
open PySem PySem.Spec PyProof.Rows L2
/-! sorted of whole numbers, any length -/
def rSortA (K : PySem.W.Frag) : List V → Hp → VK → Prop := fun vs H Q => ∃ (a : Addr) (ns : List Int), vs = [V.ref a] ∧ SqL K H a (ns.map V.int) ∧
  ∀ (ns' : List Int) (p : Addr), ns'.Perm ns → ns'.Pairwise (· ≤ ·) → H p = none → Q (.ref p) (upd H p (.lst (ns'.map V.int)))
theorem cr_sortA {X : Cx} : CallR X (.builtin "sorted") (rSortA X.K) := by
  intro pins s σ H vs us Q I r h
  obtain ⟨a, ns, rfl, hs, q⟩ := h
  obtain ⟨its, rv, hl, hz⟩ := I.list hs
  rw [Vals.ref1 r]
  have hi := rv.ints
  have hlz : its.length ≤ sizeLine := by rw [hi.length]; rwa [List.length_map] at hz
  refine PyProof.Rows.sorted_intsAny hl.isList hi hlz fun out ns' h1 h2 h3 => ?_
  obtain ⟨ep, he'⟩ := PyProof.Rows.sortedAll_at s.heap its out
  have hlen : (ns'.map V.int).length ≤ sizeLine := by rw [List.length_map, h2.length_eq]; rwa [List.length_map] at hz
  exact ⟨.ref _, upd H (s.heap.objs.size + 1) (.lst (ns'.map V.int)), I.laid (t' := s.toks) (fun _ _ => PyProof.Rows.sortedAll_old) (Nat.le_succ _) ⟨hlen, out.toList, ep, vals_of_ints h1, he'⟩, rfl, q ns' _ h2 h3 (I.hok.fresh (Nat.le_succ _))⟩
/-! list(range(n)) -/
theorem cr_range1 {X : Cx} : CallR X (.type "range") (fun vs H Q => ∃ j, vs = [V.int j] ∧ ∀ p, H p = none → Q (.ref p) (upd H p (.rng 0 j))) := by
  intro pins s σ H vs us Q I r h
  obtain ⟨j, rfl, q⟩ := h
  obtain ⟨u, rfl, ru⟩ := vals1 r
  obtain ⟨t, rfl⟩ := ru
  refine call_range_1 ⟨.ref s.heap.objs.size, upd H s.heap.objs.size (.rng 0 j), I.laid (t' := s.toks + 1 + 1) (fun b o e => Heap.get?_push_of_some _ e) (Nat.le_refl _) ?_, rfl, q _ (I.hok.fresh (Nat.le_refl _))⟩
  exact ⟨s.toks, t, s.toks + 1, Heap.get?_push_size _ rfl⟩
theorem vals_ix {P : Nat → Value → Prop} {g : Nat → V} (hg : ∀ i v, P i v → RelV (g i) v) : ∀ (us : List Value) (k : Nat), (∀ j v, us[j]? = some v → P (k + j) v) → Vals ((List.range us.length).map fun i => g (k + i)) us
  | [], _, _ => .nil
  | u :: us, k, h => by
    rw [List.length_cons, List.range_succ_eq_map, List.map_cons, List.map_map]
    refine .cons (hg _ _ (h 0 u rfl)) ?_
    have ih := vals_ix hg us (k + 1) fun j v e => by
      have := h (j + 1) v e
      rwa [show k + 1 + j = k + (j + 1) by omega]
    have e : ((fun i => g (k + i)) ∘ Nat.succ) = fun i => g (k + 1 + i) := by
      funext i
      show g (k + (i + 1)) = g (k + 1 + i)
      rw [show k + (i + 1) = k + 1 + i by omega]
    rw [e]
    exact ih
def rListR : List V → Hp → VK → Prop := fun xs H Q => ∃ (r : Addr) (n : Nat), xs = [.ref r] ∧ H r = some (.rng 0 (n : Int)) ∧ n ≤ 100000 ∧ ∀ l, H l = none → Q (.ref l) (upd H l (.lst ((List.range n).map fun i : Nat => V.int (i : Int))))
theorem call_listR {X : Cx} (hc : X.calm = true) : CallR X (.type "list") rListR := by
  intro pins s σ H xs us Q I r h
  obtain ⟨ra, n, rfl, hr, hn, q⟩ := h
  obtain ⟨u, rfl, ru⟩ := vals1 r
  obtain rfl : u = Value.ref ra := ru
  obtain ⟨t1, t2, t3, ho⟩ := I.hok ra _ hr
  have esz : Builtin.Range.rangeSize 0 (n : Int) 1 = ((n : Nat) : Int) := by rw [PyProof.Rows.rangeSize_nat]; omega
  have fit : ∀ x : Int, -1000000 ≤ x → x ≤ 1000000 → Builtin.Range.rangeFitsLong x = true := by
    intro x h1 h2
    unfold Builtin.Range.rangeFitsLong
    simp
    omega
  have sm : Builtin.Range.small 0 (n : Int) 1 = true := by
    unfold Builtin.Range.small
    rw [esz, fit 0 (by omega) (by omega), fit n (by omega) (by omega), fit 1 (by omega) (by omega)]
    have e : (n : Int) + (1 - 1) = n := by omega
    rw [if_pos (by decide), e, fit n (by omega) (by omega)]
    simp
  refine call_list_range (I.ok.hd hc) (a := 0) (b := (n : Int)) (c := 1) (n := n) ho sm esz (by omega) fun h' tk acc' c' kp e hac => ?_
  have esz2 : acc'.toList.length = n := hac.1
  have rel : Vals ((List.range n).map fun i : Nat => V.int (i : Int)) acc'.toList := by
    have z := vals_ix (P := fun i v => ∃ t, v = .int (0 + (i : Int) * 1) t) (g := fun i : Nat => V.int (i : Int)) (fun i v ⟨t, hv⟩ => ⟨t, by rw [hv, Int.zero_add, Int.mul_one]⟩) acc'.toList 0 fun j v hj => by
      rw [Nat.zero_add]
      exact hac.2 j v (by simpa using hj)
    rw [esz2] at z
    have e2 : (fun i : Nat => V.int (((0 + i : Nat)) : Int)) = fun i : Nat => V.int (i : Int) := by funext i; rw [Nat.zero_add]
    rw [e2] at z
    exact z
  have hz : ((List.range n).map fun i : Nat => V.int (i : Int)).length ≤ sizeLine := by
    rw [List.length_map, List.length_range]
    unfold sizeLine; omega
  exact ⟨.ref s.heap.objs.size, _, I.laid (t' := tk) kp (Nat.le_refl _) (show ObjOk X.prog X.w _ h' _ (.lst _) from ⟨hz, acc'.toList, c', rel, by simpa using e⟩), rfl, q _ (I.hok.fresh (Nat.le_refl _))⟩
end My
namespace My
open PySem PySem.Spec PyProof.Rows L2
/-! sorted of rows of whole numbers -/
abbrev Zr := Addr × List Int
def zref (z : Zr) : V := .ref z.1
def rSortRows (K : PySem.W.Frag) : List V → Hp → VK → Prop := fun vs H Q => ∃ (a : Addr) (zs : List Zr), vs = [V.ref a] ∧ SqL K H a (zs.map zref) ∧ (∀ z ∈ zs, H z.1 = some (.lst (z.2.map V.int))) ∧
  ∀ (ys : List Zr) (p : Addr), ys.Perm zs → ys.Pairwise (fun x y => x.2 ≤ y.2) → H p = none → Q (.ref p) (upd H p (.lst (ys.map zref)))
def Rz (v : Value) (z : Zr) : Prop := v = .ref z.1
theorem each_z : ∀ {zs : List Zr} {us : List Value}, Vals (zs.map zref) us → PySem.W.EachIs Rz us zs
  | [], _, .nil => .nil
  | z :: zs, _, .cons r t => .cons r (each_z t)
theorem z_each : ∀ {zs : List Zr} {us : List Value}, PySem.W.EachIs Rz us zs → Vals (zs.map zref) us
  | _, _, .nil => .nil
  | _, _, .cons r t => .cons r (z_each t)
theorem each_reads {X : Cx} {pins : List (Addr × Obj)} {σ : L2.St} {H : Hp} {s : Shared} (I : Inv X pins σ H s) : ∀ {zs : List Zr} {us : List Value}, PySem.W.EachIs Rz us zs → (∀ z ∈ zs, H z.1 = some (.lst (z.2.map V.int))) →
    PySem.W.EachIs (fun v (z : Zr) => ∃ as, Reads s.heap v (.list (z.2.map .int)) as) us zs
  | _, _, .nil, _ => .nil
  | _, _, .cons (b := z) r t, h => .cons (by
      have e := h z (List.mem_cons_self ..)
      exact Dp.reads I _ (.ref z.1) _ (dpI (ns := z.2) (SqL.of e)) r) (each_reads I t fun y hy => h y (List.mem_cons_of_mem _ hy))
theorem cr_sortRows {X : Cx} (hu : X.A.units + 64 < cLine) : CallR X (.builtin "sorted") (rSortRows X.K) := by
  intro pins s σ H vs us Q I r h
  obtain ⟨a, zs, rfl, hs, hrow, q⟩ := h
  obtain ⟨its, rv, hl, hz⟩ := I.list hs
  rw [Vals.ref1 r]
  have ea := each_z rv
  rw [List.length_map] at hz
  refine PySem.W.sorted_data (R := Rz) (enc := fun z : Zr => PyData.list (z.2.map .int)) hl.isList ea (each_reads I ea hrow) ?_ ?_ hz ?_ fun out hlo ho => ?_
  · refine PySem.W.AllAlike.of fun b b' => ?_
    show PySem.W.alike (.list _) (.list _) = true
    simp only [PySem.W.alike]
    exact PySem.W.alike_ints _ _
  · exact PySem.W.Sortable.others fun b => ⟨(fun z => nomatch z), (fun xs z => nomatch z)⟩
  · intro b hb
    have := dI_depth b.2
    have e : (PyData.list (b.2.map .int)).depth = (dI b.2).depth := rfl
    omega
  · obtain ⟨ep, he'⟩ := PyProof.Rows.sortedAll_at s.heap its out.toArray
    have hlen : ((zs.mergeSort (PySem.W.dataLe false fun z : Zr => PyData.list (z.2.map .int))).map zref).length ≤ sizeLine := by rw [List.length_map, List.length_mergeSort]; exact hz
    have free : H (s.heap.objs.size + 1) = none := I.hok.fresh (Nat.le_succ _)
    refine ⟨.ref _, upd H (s.heap.objs.size + 1) (.lst ((zs.mergeSort (PySem.W.dataLe false fun z : Zr => PyData.list (z.2.map .int))).map zref)), I.laid (t' := s.toks) (fun _ _ => PyProof.Rows.sortedAll_old) (Nat.le_succ _) ⟨hlen, out, ep, z_each ho, by simpa using he'⟩, rfl, q _ _ (List.mergeSort_perm _ _) ?_ free⟩
    rw [PySem.W.dataLe_rows]
    have z := List.pairwise_mergeSort (le := fun (a b : Zr) => decide (a.2 ≤ b.2)) (by intro a b c h1 h2; exact decide_eq_true (List.le_trans (of_decide_eq_true h1) (of_decide_eq_true h2)))
      (by intro a b; rcases List.le_total a.2 b.2 with h | h <;> simp [h]) zs
    exact z.imp fun h => of_decide_eq_true h
/-! rows cut off, turned around -/
theorem Rws.take {H : Hp} {qs : List Addr} {bs : List (List V)} (R : Rws H qs bs) (j : Nat) : Rws H (qs.take j) (bs.take j) := by
  refine ⟨by rw [List.length_take, List.length_take, R.len], R.nd.sublist (List.take_sublist ..), fun i q b e1 e2 => ?_⟩
  rw [List.getElem?_take] at e1 e2
  split at e1
  · rename_i h
    rw [if_pos h] at e2
    exact R.get i q b e1 e2
  · cases e1
theorem Rws.drop {H : Hp} {qs : List Addr} {bs : List (List V)} (R : Rws H qs bs) (j : Nat) : Rws H (qs.drop j) (bs.drop j) := by
  refine ⟨by rw [List.length_drop, List.length_drop, R.len], R.nd.sublist (List.drop_sublist ..), fun i q b e1 e2 => ?_⟩
  rw [List.getElem?_drop] at e1 e2
  exact R.get _ q b e1 e2
theorem Rws.rev {H : Hp} {qs : List Addr} {bs : List (List V)} (R : Rws H qs bs) : Rws H qs.reverse bs.reverse := by
  refine ⟨by rw [List.length_reverse, List.length_reverse, R.len], (List.reverse_perm qs).nodup_iff.mpr R.nd, fun i q b e1 e2 => ?_⟩
  have h1 := (List.getElem?_eq_some_iff.mp e1).1
  rw [List.length_reverse] at h1
  rw [List.getElem?_reverse h1] at e1
  rw [List.getElem?_reverse (by rw [← R.len]; exact h1), ← R.len] at e2
  exact R.get _ q b e1 e2
theorem Rws.cons {H : Hp} {qs : List Addr} {bs : List (List V)} {p : Addr} {b : List V} (R : Rws H qs bs) (h : H p = some (.lst b)) (n : p ∉ qs) : Rws H (p :: qs) (b :: bs) := by
  refine ⟨by rw [List.length_cons, List.length_cons, R.len], List.nodup_cons.mpr ⟨n, R.nd⟩, fun i q c e1 e2 => ?_⟩
  cases i with
  | zero =>
    rw [← Option.some.inj e1, ← Option.some.inj e2]
    exact h
  | succ i => exact R.get i q c e1 e2
theorem Rws.app {H : Hp} {qs rs : List Addr} {bs cs : List (List V)} (R : Rws H qs bs) (S : Rws H rs cs) (n : ∀ q ∈ qs, q ∉ rs) : Rws H (qs ++ rs) (bs ++ cs) := by
  refine ⟨by rw [List.length_append, List.length_append, R.len, S.len], List.nodup_append.mpr ⟨R.nd, S.nd, fun x hx y hy e => n x hx (e ▸ hy)⟩, fun i q c e1 e2 => ?_⟩
  rcases Nat.lt_or_ge i qs.length with z | z
  · rw [List.getElem?_append_left z] at e1
    rw [List.getElem?_append_left (R.len ▸ z)] at e2
    exact R.get i q c e1 e2
  · rw [List.getElem?_append_right z] at e1
    rw [List.getElem?_append_right (R.len ▸ z), ← R.len] at e2
    exact S.get _ q c e1 e2
end My
namespace My
open PySem PySem.Spec PyProof.Rows L2
/-! set(xs), xs a list of whole numbers, with all that sorted asks of it -/
section
variable {P : Program} {w : World} {A : Around} {E : Value → Shared → Prop} {s : Shared}
abbrev set0 (w : World) : Obj := { cls := .type "set", dict := none, data := .set #[] 0 (.fresh 0 0 (!w.params.followText "set-order")) }
def Filled (w : World) (s : Shared) (ns : List Int) (s2 : Shared) : Prop :=
  ∃ h' tk c, s2 = { s with heap := h', toks := tk } ∧ SetR w h' s.heap.objs.size (fun j => decide (j ∈ ns)) c ∧ c ≤ ns.length ∧ ∀ b o, s.heap.get? b = some o → h'.get? b = some o
set_option maxHeartbeats 3200000 in
theorem fill_list {l : Addr} {items : Array Value} (ns : List Int) (hh : A.handled = none) (hl : s.heap.IsList l items) (hit : IntsAre items.toList ns) (hb : ns.length + 1 < scanBound) :
    wpAny (model P w) A.in1 (Builtin.«set.__init__» ⟨[.ref s.heap.objs.size, .ref l], []⟩)
      (fun fin s' => match fin with | .done f => wants (fun r s₂ => r = .none ∧ Filled w s ns s₂) E (.ok f) s' | .again c' => c'.quiet = true ∧ codeAny (model P w) A c' (wants (fun r s₂ => r = .none ∧ Filled w s ns s₂) E) s')
      (fun e s' => wants (fun r s₂ => r = .none ∧ Filled w s ns s₂) E (.error e) s') { s with heap := s.heap.push (set0 w) } := by
  have size : items.size = ns.length := by
    have q := IntsAre.length hit
    rwa [Array.length_toList] at q
  obtain ⟨ol, hol, hcl, nl, hdl⟩ := hl
  obtain ⟨ocls, odict, odata, oslots⟩ := ol
  simp only at hcl hdl
  subst hcl; subst hdl
  have at1 : (s.heap.push (set0 w)).get? s.heap.objs.size = some (set0 w) := Heap.get?_push_size _ rfl
  have old : (s.heap.push (set0 w)).get? l = some { cls := .type "list", dict := odict, data := .seq items nl, slots := oslots } := Heap.get?_push_of_some _ hol
  have isl : (s.heap.push (set0 w)).IsList l items := ⟨_, old, rfl, nl, rfl⟩
  have low : l < s.heap.objs.size := Heap.lt_size hol
  have big : (s.heap.push (set0 w)).objs.size = s.heap.objs.size + 1 := Heap.size_push ..
  have sub1 := F.sub_list_set
  have sub2 := F.sub_list_frozenset
  have nodict : (Value.type "list" == Value.type "dict") = false := by decide
  unfold Builtin.«set.__init__» noKeywords Builtin.Frozenset.updateFrom
  generalize hPI : pyIter = PI
  wp_walk
  subst hPI
  refine wpAny_pyIter_list isl ?_
  refine wpAny_bind (wpAny_runValue ?_)
  have calm : A.in1.handled = none := by simp [hh]
  have apart : l ≠ (s.heap.push (set0 w)).objs.size := by rw [big]; exact Nat.ne_of_lt (Nat.lt_succ_of_lt low)
  have off : s.heap.objs.size ∉ [(s.heap.push (set0 w)).objs.size, l] := by
    rw [big]
    simp only [List.mem_cons, List.not_mem_nil, or_false, not_or]
    exact ⟨Nat.ne_of_lt (Nat.lt_succ_self _), Nat.ne_of_gt low⟩
  have val : ∀ (i : Nat) (v : Value), items[i]? = some v → ∃ k t, ns[i]? = some k ∧ v = .int k t := fun i v hv => by
    have hi : i < ns.length := by rw [← size]; exact (Array.getElem?_eq_some_iff.mp hv).1
    obtain ⟨t, e⟩ := PyProof.Rows.IntsAre.int_at hit i v (by rw [Array.getElem?_toList]; exact hv)
    refine ⟨ns[i], t, List.getElem?_eq_getElem hi, ?_⟩
    rw [e, List.getD_eq_getElem?_getD, List.getElem?_eq_getElem hi] <;> rfl
  refine set_update_ints ((Walks.list (by simp [hh]) _ l apart items).toS) s.heap.objs.size off ns size hb val (items.size - 0) 0 _ (by omega) (Nat.zero_le _)
    ⟨⟨_, Heap.get?_push_size _ rfl, rfl, rfl⟩, isl.push _⟩ ?gS ?gR
  case gS =>
    exact ⟨0, Nat.le_refl 0, setR_new_at (Heap.get?_push_of_some _ at1)⟩
  case gR =>
    intro s' c' hm hc' hS'
    obtain ⟨h', g2, d', tk', os'⟩ := s'
    have eg : g2 = s.gens := hm.gens
    have ed : d' = s.drawn := hm.drawn
    have eo : os' = s.os := hm.os
    subst eg; subst ed; subst eo
    show wpAny _ _ _ _ _ _
    refine wpAny_pure ?_
    show wpAny _ _ (ret Value.none) _ _ _
    rw [size] at hc'
    refine wpAny_pure ⟨rfl, h', tk', c', rfl, hS', hc', fun b o e => ?_⟩
    have b0 : b < s.heap.objs.size := Heap.lt_size e
    refine hm.heap b o ?_ (Heap.get?_push_of_some _ (Heap.get?_push_of_some _ e))
    simp only [List.mem_cons, List.not_mem_nil, or_false, not_or]
    exact ⟨Nat.ne_of_lt b0, by rw [big]; exact Nat.ne_of_lt (Nat.lt_succ_of_lt b0)⟩
set_option maxHeartbeats 3200000 in
theorem call_setL {l : Addr} {items : Array Value} (ns : List Int) {Q : Value → Shared → Prop} (hh : A.handled = none) (hl : s.heap.IsList l items) (hit : IntsAre items.toList ns) (hb : ns.length + 1 < scanBound)
    (h : ∀ (s2 : Shared), Filled w s ns s2 → Q (.ref s.heap.objs.size) s2) :
    wpAny (model P w) A (call (.type "set") [.ref l]) Q E s := by
  obtain ⟨c, tl, hmro⟩ := F.called_set.mro
  have hmade := F.called_set.made
  have hsub := F.called_set.sub
  refine wpAny_call (codeAny_of_tree ?_)
  show wpAny _ _ (callAny (.type "set") _) _ _ _
  refine wpAny_pure ⟨Code.quiet_builtin _ (by decide +kernel), codeAny_builtin F.entry_type_call ?_⟩
  rw [Around.under_plain (weight_type_call_type "set" [.ref l] []) rfl]
  have h1 := F.called_set.notType
  have h2 := F.called_set.canCreate
  have hct := F.typeCall_set_1 (.ref l)
  repeat (any_goals (first | assumption | wp_step))
  refine codeAny_mono (code_set_led1 (.ref l) (E := E) (Q₁ := fun obj s₁ => obj = .ref s.heap.objs.size ∧ s₁ = { s with heap := s.heap.push (set0 w) }) ⟨rfl, rfl⟩) fun r s₁ hr => ?_
  cases r with
  | error e => exact hr
  | ok fl =>
    cases fl with
    | ret obj =>
      obtain ⟨rfl, rfl⟩ := hr
      have hT : Shared.TypeIs { s with heap := s.heap.push (set0 w) } (.ref s.heap.objs.size) "set" := ⟨_, Heap.get?_push_size _ rfl, rfl⟩
      have hli := F.called_set.init.lookup
      have hbi := F.called_set.init.bind (.ref s.heap.objs.size)
      repeat (any_goals (first | assumption | wp_step))
      refine codeAny_mono (codeAny_call_builtin (R := wants (fun r s₂ => r = .none ∧ Filled w s ns s₂) E) F.called_set.init.plain F.entry_set_init (check_set_init_1 hT ?_)) fun r₂ s₂ hr₂ => ?_
      · exact fill_list ns (by simp [hh]) hl hit hb
      · cases r₂ with
        | error e => exact hr₂
        | ok fl₂ =>
          cases fl₂ with
          | ret r =>
            obtain ⟨rfl, hF⟩ := hr₂
            repeat (any_goals (first | assumption | wp_step))
            exact h _ hF
          | _ => exact hr₂.elim
    | _ => exact hr.elim
end
def rSetL2 (K : PySem.W.Frag) (w : World) : List V → Hp → VK → Prop := fun vs H Q => ∃ (l : Addr) (ns : List Int), vs = [.ref l] ∧ SqL K H l (ns.map V.int) ∧ ns.length < 64 ∧
  ∀ p c, H p = none → c < 64 → Q (.ref p) (upd H p (SetO w p (fun j => decide (j ∈ ns)) c))
theorem cr_setL {X : Cx} (hc : X.calm = true) : CallR X (.type "set") (rSetL2 X.K X.w) := by
  intro pins s σ H vs us Q I r h
  obtain ⟨l, ns, rfl, hq, h64, q⟩ := h
  obtain ⟨its, rv, pl, hz⟩ := I.list hq
  rw [Vals.ref1 r]
  refine call_setL ns (I.ok.hd hc) pl.isList (by simpa using rv.ints) (by unfold scanBound; omega) fun s2 hF => ?_
  obtain ⟨h', tk, c, rfl, hS, hcl, kp⟩ := hF
  exact ⟨.ref s.heap.objs.size, _, I.laid (t' := tk) kp (Nat.le_refl _) (setO_new hS), rfl, q _ c (I.hok.fresh (Nat.le_refl _)) (by omega)⟩
end My
namespace My
open PySem PySem.Spec PyProof.Rows L2 LamX
/-- nothing but a table was tracked there -/
def WF (H : Hp) (l : Addr) : Prop := ∀ o, H l = some o → ∃ ps, o = .tbl ps
theorem WF.of {H : Hp} {l : Addr} (h : H l = none) : WF H l := fun o e => by rw [h] at e; cases e
theorem WF.ext {H H' : Hp} {l : Addr} (e : ExtN H H') (h : WF H' l) : WF H l := fun o eo => by
  cases o with
  | tbl ps => exact ⟨ps, rfl⟩
  | _ =>
    have := h _ (e _ _ eo (fun ps z => nomatch z))
    exact this
theorem xlst {H H' : Hp} {a : Addr} {xs : List V} (e : ExtN H H') (h : H a = some (.lst xs)) : H' a = some (.lst xs) := e _ _ h (fun ps z => nomatch z)
theorem xtup {H H' : Hp} {a : Addr} {xs : List V} (e : ExtN H H') (h : H a = some (.tup xs)) : H' a = some (.tup xs) := e _ _ h (fun ps z => nomatch z)
theorem xsq {K : PySem.W.Frag} {H H' : Hp} {a : Addr} {xs : List V} (e : ExtN H H') (h : SqL K H a xs) : SqL K H' a xs := by
  rcases h with (h | ⟨o, h⟩) | h
  · exact Or.inl (Or.inl (xlst e h))
  · exact Or.inl (Or.inr ⟨o, e _ _ h (fun ps z => nomatch z)⟩)
  · exact Or.inr h
theorem xsm {H H' : Hp} (s : Same H H') : ExtN H H' := ExtN.of s
theorem xnw {H H' : Hp} {l : Addr} {o : HO} (e : ExtN H H') (n : H' l = none) : ExtN H (upd H' l o) := fun b u h1 h2 => by
  have h3 := e b u h1 h2
  rw [upd_ne (ne_of_none h3 n)]
  exact h3
theorem xwr {H H' : Hp} {l : Addr} {o : HO} (e : ExtN H H') (n : WF H l) : ExtN H (upd H' l o) := fun b u h1 h2 => by
  have ne : b ≠ l := fun z => by
    obtain ⟨ps, h⟩ := n u (by rw [← z]; exact h1)
    exact h2 ps h
  rw [upd_ne ne]
  exact e b u h1 h2
theorem tabs_same {T : List (Addr × Str)} {H H' : Hp} (t : Tabs T H) (s : Same H H') : Tabs T H' := t.ext s
theorem tabs_new {T : List (Addr × Str)} {H : Hp} {l : Addr} {o : HO} (t : Tabs T H) (n : H l = none) : Tabs T (upd H l o) := t.ext (sameN n)
theorem tabs_but {T : List (Addr × Str)} {H H' : Hp} {D : Addr} {xs : List V} (t : Tabs T H) (b : But D H H') (h : H D = some (.lst xs)) : Tabs T H' := by
  intro p hp
  obtain ⟨ps, h1, h2, h3⟩ := t p hp
  have n1 : p.1 ≠ D := fun z => by rw [z, h] at h1; cases h1
  refine ⟨ps, b _ _ n1 h1, h2, fun pos cv hc => ?_⟩
  obtain ⟨c, e1, e2⟩ := h3 pos cv hc
  have n2 : c ≠ D := fun z => by
    rw [z, h] at e2
    unfold CodeO at e2
    cases e2
  exact ⟨c, e1, b _ _ n2 e2⟩
theorem tabs_write {T : List (Addr × Str)} {H : Hp} {D : Addr} {xs : List V} {o : HO} (t : Tabs T H) (h : H D = some (.lst xs)) : Tabs T (upd H D o) := tabs_but t (fun b u n e => by rw [upd_ne n]; exact e) h
/-- the rows of ints as values -/
abbrev vv (bs : List (List Int)) : List (List V) := bs.map fun b => b.map V.int
theorem vv_len (bs : List (List Int)) : (vv bs).length = bs.length := List.length_map ..

/-! what a def holds in its hands -/
/-- of the kinds that are held: lists, tuples, ranges, dicts, sets -/
def Holdable : HO → Prop
  | .lst _ => True
  | .tup _ => True
  | .rng _ _ => True
  | .dK _ => True
  | .set _ _ => True
  | .frz _ _ => True
  | _ => False
theorem tabs_wr {T : List (Addr × Str)} {H : Hp} {D : Addr} {o o' : HO} (t : Tabs T H) (h : H D = some o) (n : Holdable o) : Tabs T (upd H D o') := by
  intro p hp
  obtain ⟨ps, h1, h2, h3⟩ := t p hp
  have n1 : p.1 ≠ D := fun z => by
    rw [z, h] at h1
    cases h1
    exact n
  refine ⟨ps, by rw [upd_ne n1]; exact h1, h2, fun pos cv hc => ?_⟩
  obtain ⟨c, e1, e2⟩ := h3 pos cv hc
  have n2 : c ≠ D := fun z => by
    rw [z, h] at e2
    unfold CodeO at e2
    cases e2
    exact n
  exact ⟨c, e1, by rw [upd_ne n2]; exact e2⟩
inductive Cell
  | ob (a : Addr) (o : HO)
  | pr (a : Addr) (φ : HO → Prop)
  | fm (p : Addr) (qs : List Addr) (rows : List (List V))
  | rs (qs : List Addr) (rows : List (List V))
def Cell.foot : Cell → List Addr
  | .ob a _ => [a]
  | .pr a _ => [a]
  | .fm p qs _ => p :: qs
  | .rs qs _ => qs
def Cell.ok (H : Hp) : Cell → Prop
  | .ob a o => H a = some o ∧ Holdable o
  | .pr a φ => ∃ o, H a = some o ∧ Holdable o ∧ φ o
  | .fm p qs rows => H p = some (.lst (qs.map V.ref)) ∧ Rws H qs rows
  | .rs qs rows => Rws H qs rows
def foots (L : List Cell) : List Addr := L.flatMap Cell.foot
theorem foots_sub {L L' : List Cell} (s : L'.Sublist L) : (L'.flatMap Cell.foot).Sublist (L.flatMap Cell.foot) := by
  induction s with
  | slnil => exact List.Sublist.refl _
  | cons a _ ih => exact ih.trans (List.sublist_append_right _ _)
  | cons_cons a _ ih => exact List.Sublist.append (List.Sublist.refl _) ih
theorem foots_cons (c : Cell) (L : List Cell) : foots (c :: L) = c.foot ++ foots L := rfl
theorem Rws.agree {H H' : Hp} {qs : List Addr} {bs : List (List V)} (R : Rws H qs bs) (e : ∀ a ∈ qs, H' a = H a) : Rws H' qs bs :=
  ⟨R.len, R.nd, fun j q b e1 e2 => by rw [e q (List.mem_of_getElem? e1)]; exact R.get j q b e1 e2⟩
theorem Cell.ok_agree {H H' : Hp} {c : Cell} (h : c.ok H) (e : ∀ a ∈ c.foot, H' a = H a) : c.ok H' := by
  cases c with
  | ob a o => exact ⟨by rw [e a (List.mem_singleton.mpr rfl)]; exact h.1, h.2⟩
  | pr a φ =>
    obtain ⟨o, h1, h2⟩ := h
    exact ⟨o, by rw [e a (List.mem_singleton.mpr rfl)]; exact h1, h2⟩
  | fm p qs rows => exact ⟨by rw [e p (List.mem_cons_self ..)]; exact h.1, h.2.agree fun a ha => e a (List.mem_cons_of_mem _ ha)⟩
  | rs qs rows => exact Rws.agree h e
theorem Cell.there {H : Hp} {c : Cell} (h : c.ok H) {a : Addr} (ha : a ∈ c.foot) : ∃ o, H a = some o ∧ Holdable o := by
  cases c with
  | ob b o => rw [List.mem_singleton.mp ha]; exact ⟨_, h⟩
  | pr b φ =>
    obtain ⟨o, h1, h2, _⟩ := h
    rw [List.mem_singleton.mp ha]
    exact ⟨_, h1, h2⟩
  | fm p qs rows =>
    rcases List.mem_cons.mp ha with e | e
    · rw [e]; exact ⟨_, h.1, trivial⟩
    · obtain ⟨j, b, e1, e2, e3⟩ := h.2.at' e
      exact ⟨_, e3, trivial⟩
  | rs qs rows =>
    obtain ⟨j, b, e1, e2, e3⟩ := Rws.at' h ha
    exact ⟨_, e3, trivial⟩
structure Own (H0 H : Hp) (T : List (Addr × Str)) (L : List Cell) : Prop where
  ex : ExtN H0 H
  tb : Tabs T H
  wf : ∀ a ∈ foots L, WF H0 a
  nd : (foots L).Nodup
  ok : ∀ c ∈ L, c.ok H
section
variable {H0 H H' : Hp} {T : List (Addr × Str)} {L L' : List Cell} {c : Cell} {a l p : Addr} {o o' : HO} {xs : List V} {qs : List Addr} {rows : List (List V)} {φ : HO → Prop}
theorem Own.start (t : Tabs T H) : Own H H T [] := ⟨ExtN.refl _, t, (fun _ h => nomatch h), List.nodup_nil, fun _ h => nomatch h⟩
theorem Own.fresh (B : Own H0 H T L) (n : H l = none) : l ∉ foots L := fun z => by
  obtain ⟨d, hd, hl⟩ := List.mem_flatMap.mp z
  obtain ⟨o, h, _⟩ := Cell.there (B.ok d hd) hl
  rw [n] at h
  cases h
theorem agree_upd {f : List Addr} (n : l ∉ f) : ∀ a ∈ f, upd H l o a = H a := fun a ha => upd_ne fun z => n (z ▸ ha)
theorem Own.new (B : Own H0 H T L) (n : H l = none) (h : Holdable o) : Own H0 (upd H l o) T (.ob l o :: L) := by
  have fr := B.fresh n
  refine ⟨xnw B.ex n, tabs_new B.tb n, fun b hb => ?_, ?_, fun d hd => ?_⟩
  · rcases List.mem_cons.mp hb with e | e
    · rw [e]; exact WF.ext B.ex (WF.of n)
    · exact B.wf b e
  · exact List.nodup_cons.mpr ⟨fr, B.nd⟩
  · rcases List.mem_cons.mp hd with e | e
    · rw [e]; exact ⟨upd_same, h⟩
    · exact Cell.ok_agree (B.ok d e) (agree_upd fun z => fr (List.mem_flatMap.mpr ⟨d, e, z⟩))
theorem Own.perm (B : Own H0 H T L) (p : L.Perm L') : Own H0 H T L' := by
  have pf : (foots L).Perm (foots L') := p.flatMap_right _
  exact ⟨B.ex, B.tb, fun b hb => B.wf b (pf.mem_iff.mpr hb), pf.nodup_iff.mp B.nd, fun d hd => B.ok d (p.mem_iff.mpr hd)⟩
theorem Own.sub (B : Own H0 H T L) (s : L'.Sublist L) : Own H0 H T L' := by
  have sf : (foots L').Sublist (foots L) := foots_sub s
  exact ⟨B.ex, B.tb, fun b hb => B.wf b (sf.subset hb), B.nd.sublist sf, fun d hd => B.ok d (s.subset hd)⟩
theorem Own.tail (B : Own H0 H T (c :: L)) : Own H0 H T L := B.sub (List.sublist_cons_self ..)
theorem Own.head (B : Own H0 H T (c :: L)) : c.ok H := B.ok c (List.mem_cons_self ..)
theorem Own.off (B : Own H0 H T (c :: L)) {x : Addr} (hx : x ∈ c.foot) : x ∉ foots L := by
  have h := B.nd
  rw [foots_cons] at h
  exact fun z => (List.nodup_append.mp h).2.2 x hx x z rfl
/-- the object at the head is written -/
theorem Own.wr (B : Own H0 H T (.ob a o :: L)) (h : Holdable o') : Own H0 (upd H a o') T (.ob a o' :: L) := by
  have n := B.off (x := a) (List.mem_singleton.mpr rfl)
  refine ⟨xwr B.ex (B.wf a (List.mem_cons_self ..)), tabs_wr B.tb B.head.1 B.head.2, B.wf, B.nd, fun d hd => ?_⟩
  rcases List.mem_cons.mp hd with e | e
  · rw [e]; exact ⟨upd_same, h⟩
  · exact Cell.ok_agree (B.ok d (List.mem_cons_of_mem _ e)) (agree_upd fun z => n (List.mem_flatMap.mpr ⟨d, e, z⟩))
theorem Own.wrP (B : Own H0 H T (.pr a φ :: L)) (h : Holdable o') {ψ : HO → Prop} (q : ψ o') : Own H0 (upd H a o') T (.pr a ψ :: L) := by
  have n := B.off (x := a) (List.mem_singleton.mpr rfl)
  obtain ⟨o, h1, h2, _⟩ := B.head
  refine ⟨xwr B.ex (B.wf a (List.mem_cons_self ..)), tabs_wr B.tb h1 h2, B.wf, B.nd, fun d hd => ?_⟩
  rcases List.mem_cons.mp hd with e | e
  · rw [e]; exact ⟨_, upd_same, h, q⟩
  · exact Cell.ok_agree (B.ok d (List.mem_cons_of_mem _ e)) (agree_upd fun z => n (List.mem_flatMap.mpr ⟨d, e, z⟩))
theorem Own.toP (B : Own H0 H T (.ob a o :: L)) (q : φ o) : Own H0 H T (.pr a φ :: L) :=
  ⟨B.ex, B.tb, B.wf, B.nd, fun d hd => by
    rcases List.mem_cons.mp hd with e | e
    · rw [e]; exact ⟨o, B.head.1, B.head.2, q⟩
    · exact B.ok d (List.mem_cons_of_mem _ e)⟩
theorem Own.ofP (B : Own H0 H T (.pr a φ :: L)) : ∃ o, φ o ∧ Own H0 H T (.ob a o :: L) := by
  obtain ⟨o, h1, h2, h3⟩ := B.head
  refine ⟨o, h3, B.ex, B.tb, B.wf, B.nd, fun d hd => ?_⟩
  rcases List.mem_cons.mp hd with e | e
  · rw [e]; exact ⟨h1, h2⟩
  · exact B.ok d (List.mem_cons_of_mem _ e)
/-- a row of the family at the head is written -/
theorem Own.row (B : Own H0 H T (.fm p qs rows :: L)) {j : Nat} {q : Addr} (e : qs[j]? = some q) (ys : List V) : Own H0 (upd H q (.lst ys)) T (.fm p qs (rows.set j ys) :: L) := by
  have hq : q ∈ qs := List.mem_of_getElem? e
  have n := B.off (x := q) (List.mem_cons_of_mem _ hq)
  have h0 := B.head
  have np : p ≠ q := fun z => by
    have h := B.nd
    rw [foots_cons] at h
    exact (List.nodup_cons.mp (List.nodup_append.mp h).1).1 (z ▸ hq)
  obtain ⟨o, h1, h2⟩ := Cell.there h0 (List.mem_cons_of_mem _ hq)
  refine ⟨xwr B.ex (B.wf q (List.mem_append_left _ (List.mem_cons_of_mem _ hq))), tabs_wr B.tb h1 h2, B.wf, B.nd, fun d hd => ?_⟩
  rcases List.mem_cons.mp hd with e2 | e2
  · rw [e2]; exact ⟨by rw [upd_ne np]; exact h0.1, h0.2.put e⟩
  · exact Cell.ok_agree (B.ok d (List.mem_cons_of_mem _ e2)) (agree_upd fun z => n (List.mem_flatMap.mpr ⟨d, e2, z⟩))
/-- a foreign call: all that is held stands -/
theorem Own.ext (B : Own H0 H T L) (e : ExtN H H') (t : Tabs T H') : Own H0 H' T L := by
  refine ⟨B.ex.trans e, t, B.wf, B.nd, fun d hd => Cell.ok_agree (B.ok d hd) fun b hb => ?_⟩
  obtain ⟨o, h1, h2⟩ := Cell.there (B.ok d hd) hb
  rw [h1]
  exact e b o h1 fun ps z => by rw [z] at h2; exact h2
theorem Own.same (B : Own H0 H T L) (s : Same H H') : Own H0 H' T L := B.ext (xsm s) (tabs_same B.tb s)
/-- something that a foreign call has made -/
theorem Own.add (B : Own H0 H T L) (w : WF H0 l) (nl : l ∉ foots L) (h : H l = some o) (k : Holdable o) : Own H0 H T (.ob l o :: L) := by
  refine ⟨B.ex, B.tb, fun b hb => ?_, List.nodup_cons.mpr ⟨nl, B.nd⟩, fun d hd => ?_⟩
  · rcases List.mem_cons.mp hb with e | e
    · rw [e]; exact w
    · exact B.wf b e
  · rcases List.mem_cons.mp hd with e | e
    · rw [e]; exact ⟨h, k⟩
    · exact B.ok d e
theorem Own.got (B : Own H0 H T L) (e : ExtN H H') (t : Tabs T H') (w : WF H l) (h : H' l = some o) (k : Holdable o) : Own H0 H' T (.ob l o :: L) := by
  refine (B.ext e t).add (WF.ext B.ex w) (fun z => ?_) h k
  obtain ⟨d, hd, hl⟩ := List.mem_flatMap.mp z
  obtain ⟨o2, h1, h2⟩ := Cell.there (B.ok d hd) hl
  obtain ⟨ps, e2⟩ := w o2 h1
  rw [e2] at h2
  exact h2
/-- a family that a foreign call has made -/
theorem Own.addF (B : Own H0 H T L) (s : Same H H') (hp : H p = none) (hq : ∀ q ∈ qs, H q = none) (n : p ∉ qs) (top : H' p = some (.lst (qs.map V.ref))) (R : Rws H' qs rows) : Own H0 H' T (.fm p qs rows :: L) := by
  have B2 := B.same s
  have fr : ∀ b ∈ p :: qs, H b = none := fun b hb => by
    rcases List.mem_cons.mp hb with e | e
    · rw [e]; exact hp
    · exact hq b e
  refine ⟨B2.ex, B2.tb, fun b hb => ?_, ?_, fun d hd => ?_⟩
  · rcases List.mem_append.mp hb with e | e
    · exact WF.ext B.ex (WF.of (fr b e))
    · exact B.wf b e
  · refine List.nodup_append.mpr ⟨List.nodup_cons.mpr ⟨n, R.nd⟩, B.nd, fun x hx y hy e => ?_⟩
    exact B.fresh (fr x hx) (e ▸ hy)
  · rcases List.mem_cons.mp hd with e | e
    · rw [e]; exact ⟨top, R⟩
    · exact B2.ok d e
/-- an empty list becomes a family without queues -/
theorem Own.toF0 (B : Own H0 H T (.ob p (.lst []) :: L)) : Own H0 H T (.fm p [] [] :: L) :=
  ⟨B.ex, B.tb, B.wf, B.nd, fun d hd => by
    rcases List.mem_cons.mp hd with e | e
    · rw [e]; exact ⟨B.head.1, Rws.nil⟩
    · exact B.ok d (List.mem_cons_of_mem _ e)⟩
/-- a list that is held becomes the last queue of a family -/
theorem Own.pushF (B : Own H0 H T (.ob l (.lst xs) :: .fm p qs rows :: L)) : Own H0 (upd H p (.lst (qs.map V.ref ++ [.ref l]))) T (.fm p (qs ++ [l]) (rows ++ [xs]) :: L) := by
  have hl := B.head.1
  have h1 := B.tail.head
  have nl : l ∉ foots (.fm p qs rows :: L) := B.off (x := l) (List.mem_singleton.mpr rfl)
  have npl : l ≠ p := fun z => nl (by rw [z]; exact List.mem_cons_self ..)
  have nql : l ∉ qs := fun z => nl (List.mem_append_left _ (List.mem_cons_of_mem _ z))
  have nd1 := B.tail.nd
  rw [foots_cons] at nd1
  have ndp := List.nodup_cons.mp (List.nodup_append.mp nd1).1
  have npL := B.tail.off (x := p) (List.mem_cons_self ..)
  have pf : (foots (.ob l (.lst xs) :: .fm p qs rows :: L)).Perm (foots (.fm p (qs ++ [l]) (rows ++ [xs]) :: L)) := by
    simp only [foots_cons, Cell.foot, List.cons_append, List.nil_append, List.append_assoc]
    exact (List.Perm.swap p l _).trans (List.Perm.cons p (List.perm_middle (a := l) (l₁ := qs) (l₂ := foots L)).symm)
  refine ⟨xwr B.ex (B.wf p (List.mem_cons_of_mem _ (List.mem_cons_self ..))), tabs_wr B.tb h1.1 trivial, fun b hb => B.wf b (pf.mem_iff.mpr hb), pf.nodup_iff.mp B.nd, fun d hd => ?_⟩
  · rcases List.mem_cons.mp hd with e | e
    · rw [e]
      refine ⟨by rw [upd_same, List.map_append]; rfl, ?_⟩
      refine Rws.agree (H := H) ?_ (fun a ha => upd_ne fun z => ?_)
      · refine ⟨by rw [List.length_append, List.length_append, h1.2.len]; rfl, List.nodup_append.mpr ⟨h1.2.nd, by simp, ?_⟩, ?_⟩
        · intro x hx y hy e3
          have e2 : y = l := by simpa using hy
          exact nql (e2 ▸ e3 ▸ hx)
        · intro j q b e1 e2
          rcases Nat.lt_or_ge j qs.length with z | z
          · rw [List.getElem?_append_left z] at e1
            rw [List.getElem?_append_left (h1.2.len ▸ z)] at e2
            exact h1.2.get j q b e1 e2
          · rw [List.getElem?_append_right z] at e1
            rw [List.getElem?_append_right (h1.2.len ▸ z), ← h1.2.len] at e2
            cases hk : j - qs.length with
            | zero =>
              rw [hk] at e1 e2
              cases e1
              cases e2
              exact hl
            | succ m =>
              rw [hk] at e1
              simp at e1
      · rcases List.mem_append.mp ha with y | y
        · exact ndp.1 (z ▸ y)
        · have e2 : a = l := by simpa using y
          exact npl (e2 ▸ z)
    · exact Cell.ok_agree (B.ok d (List.mem_cons_of_mem _ (List.mem_cons_of_mem _ e))) (agree_upd fun z => npL (List.mem_flatMap.mpr ⟨d, e, z⟩))
end
section
variable {H0 H H' : Hp} {T : List (Addr × Str)} {L L' : List Cell} {c : Cell} {a l p : Addr} {o o' : HO} {xs : List V} {qs : List Addr} {rows : List (List V)}
/-- the same things, told by other cells -/
theorem Own.conv {A C : List Cell} (B : Own H0 H T (A ++ L)) (f : (foots A).Perm (foots C)) (k : (∀ c ∈ A, c.ok H) → (foots A).Nodup → ∀ c ∈ C, c.ok H) : Own H0 H T (C ++ L) := by
  have e1 : foots (A ++ L) = foots A ++ foots L := List.flatMap_append
  have e2 : foots (C ++ L) = foots C ++ foots L := List.flatMap_append
  have pf : (foots (A ++ L)).Perm (foots (C ++ L)) := by rw [e1, e2]; exact f.append_right _
  have nd := B.nd
  rw [e1] at nd
  refine ⟨B.ex, B.tb, fun b hb => B.wf b (pf.mem_iff.mpr hb), pf.nodup_iff.mp B.nd, fun d hd => ?_⟩
  rcases List.mem_append.mp hd with h | h
  · exact k (fun c hc => B.ok c (List.mem_append_left _ hc)) (List.nodup_append.mp nd).1 d h
  · exact B.ok d (List.mem_append_right _ h)
theorem Own.rs0 (B : Own H0 H T L) : Own H0 H T (.rs [] [] :: L) :=
  Own.conv (A := []) (C := [.rs [] []]) B (List.Perm.refl _) fun _ _ c hc => by rw [List.mem_singleton.mp hc]; exact Rws.nil
theorem Rws.snoc {H : Hp} {qs : List Addr} {bs : List (List V)} (R : Rws H qs bs) {p : Addr} {b : List V} (h : H p = some (.lst b)) (n : p ∉ qs) : Rws H (qs ++ [p]) (bs ++ [b]) := by
  refine ⟨by rw [List.length_append, List.length_append, R.len]; rfl, List.nodup_append.mpr ⟨R.nd, by simp, ?_⟩, ?_⟩
  · intro x hx y hy e3
    have e2 : y = p := by simpa using hy
    exact n (e2 ▸ e3 ▸ hx)
  · intro j q c e1 e2
    rcases Nat.lt_or_ge j qs.length with z | z
    · rw [List.getElem?_append_left z] at e1
      rw [List.getElem?_append_left (R.len ▸ z)] at e2
      exact R.get j q c e1 e2
    · rw [List.getElem?_append_right z] at e1
      rw [List.getElem?_append_right (R.len ▸ z), ← R.len] at e2
      cases hk : j - qs.length with
      | zero =>
        rw [hk] at e1 e2
        cases e1
        cases e2
        exact h
      | succ m =>
        rw [hk] at e1
        simp at e1
theorem Own.pushR (B : Own H0 H T (.ob l (.lst xs) :: .rs qs rows :: L)) : Own H0 H T (.rs (qs ++ [l]) (rows ++ [xs]) :: L) :=
  Own.conv (A := [.ob l (.lst xs), .rs qs rows]) (C := [.rs (qs ++ [l]) (rows ++ [xs])]) B (by
    simp only [foots_cons, Cell.foot, List.cons_append, List.nil_append]
    show (l :: (qs ++ foots [])).Perm ((qs ++ [l]) ++ foots [])
    rw [show foots [] = [] from rfl, List.append_nil, List.append_nil]
    exact (List.perm_append_singleton l qs).symm) fun h nd c hc => by
      rw [List.mem_singleton.mp hc]
      refine Rws.snoc (h (.rs qs rows) (by simp)) (h (.ob l (.lst xs)) (by simp)).1 fun z => ?_
      rw [foots_cons, foots_cons] at nd
      exact (List.nodup_append.mp nd).2.2 l (List.mem_singleton.mpr rfl) l (List.mem_append_left _ z) rfl
theorem Own.closeR (B : Own H0 H T (.ob p (.lst (qs.map V.ref)) :: .rs qs rows :: L)) : Own H0 H T (.fm p qs rows :: L) :=
  Own.conv (A := [.ob p (.lst (qs.map V.ref)), .rs qs rows]) (C := [.fm p qs rows]) B (List.Perm.refl _) fun h nd c hc => by
    rw [List.mem_singleton.mp hc]
    exact ⟨(h (.ob p (.lst (qs.map V.ref))) (by simp)).1, h (.rs qs rows) (by simp)⟩
theorem Own.openR (B : Own H0 H T (.fm p qs rows :: L)) : Own H0 H T (.ob p (.lst (qs.map V.ref)) :: .rs qs rows :: L) :=
  Own.conv (C := [.ob p (.lst (qs.map V.ref)), .rs qs rows]) (A := [.fm p qs rows]) B (List.Perm.refl _) fun h nd c hc => by
    have z := h (.fm p qs rows) (by simp)
    rcases List.mem_cons.mp hc with e | e
    · rw [e]; exact ⟨z.1, trivial⟩
    · rw [List.mem_singleton.mp e]; exact z.2
end
/-! finding what is held at an address -/
class Pull (L : List Cell) (a : Addr) (c : outParam Cell) (L' : outParam (List Cell)) : Prop where
  p : L.Perm (c :: L')
instance (priority := 200) Pull.ob {a : Addr} {o : HO} {L : List Cell} : Pull (.ob a o :: L) a (.ob a o) L := ⟨List.Perm.refl _⟩
instance (priority := 200) Pull.pr {a : Addr} {φ : HO → Prop} {L : List Cell} : Pull (.pr a φ :: L) a (.pr a φ) L := ⟨List.Perm.refl _⟩
instance (priority := 200) Pull.fm {a : Addr} {qs : List Addr} {rows : List (List V)} {L : List Cell} : Pull (.fm a qs rows :: L) a (.fm a qs rows) L := ⟨List.Perm.refl _⟩
instance (priority := 100) Pull.next {a : Addr} {c d : Cell} {L L' : List Cell} [P : Pull L a c L'] : Pull (d :: L) a c (d :: L') := ⟨(P.p.cons d).trans (List.Perm.swap ..)⟩
/-- these cells, in this order, are held -/
class Arr (L L' : List Cell) : Prop where
  r : ∃ M, L.Perm (L' ++ M)
class PullC (L : List Cell) (c : Cell) (L' : outParam (List Cell)) : Prop where
  p : L.Perm (c :: L')
instance (priority := 200) PullC.here {c : Cell} {L : List Cell} : PullC (c :: L) c L := ⟨List.Perm.refl _⟩
instance (priority := 100) PullC.next {c d : Cell} {L L' : List Cell} [P : PullC L c L'] : PullC (d :: L) c (d :: L') := ⟨(P.p.cons d).trans (List.Perm.swap ..)⟩
instance (priority := 300) Arr.refl {L : List Cell} : Arr L L := ⟨[], by rw [List.append_nil]⟩
instance (priority := 250) Arr.none {L : List Cell} : Arr L [] := ⟨L, List.Perm.refl _⟩
instance (priority := 200) Arr.cons {c : Cell} {L L1 L' : List Cell} [P : PullC L c L1] [A : Arr L1 L'] : Arr L (c :: L') := by
  obtain ⟨M, p⟩ := A.r
  exact ⟨M, P.p.trans (p.cons c)⟩
instance (priority := 100) Arr.drop {c : Cell} {L L' : List Cell} [A : Arr L L'] : Arr (c :: L) L' := by
  obtain ⟨M, p⟩ := A.r
  exact ⟨c :: M, (p.cons c).trans List.perm_middle.symm⟩
section
variable {H0 H H' : Hp} {T : List (Addr × Str)} {L L' : List Cell} {c : Cell} {a l p : Addr} {o o' : HO} {xs : List V} {qs : List Addr} {rows : List (List V)} {φ : HO → Prop}
theorem Own.arr (B : Own H0 H T L) [A : Arr L L'] : Own H0 H T L' := by
  obtain ⟨M, p⟩ := A.r
  exact (B.perm p).sub (List.sublist_append_left ..)
theorem Own.pull (B : Own H0 H T L) (a : Addr) [P : Pull L a c L'] : Own H0 H T (c :: L') := B.perm P.p
theorem Own.get (B : Own H0 H T L) (a : Addr) [P : Pull L a (.ob a o) L'] : H a = some o := (B.pull a).head.1
theorem Own.getF (B : Own H0 H T L) (a : Addr) [P : Pull L a (.fm a qs rows) L'] : H a = some (.lst (qs.map V.ref)) := (B.pull a).head.1
theorem Own.rowsF (B : Own H0 H T L) (a : Addr) [P : Pull L a (.fm a qs rows) L'] : Rws H qs rows := (B.pull a).head.2
end
end My
namespace My
open PySem PySem.Spec PyProof.Rows L2 LamX
/-! steps through a reading, over what is held -/
def rLenK (K : PySem.W.Frag) : List V → Hp → VK → Prop := fun xs H Q => ∃ p ys, xs = [.ref p] ∧ (SqL K H p ys ∨ SqT K H p ys) ∧ Q (.int ys.length) H
theorem cl_len {X : Cx} : CallR X (.builtin "len") (rLenK X.K) := call_len_seq
def rMx2 : List V → Hp → VK → Prop := fun xs H Q => ∃ i j, xs = [.int i, .int j] ∧ Q (.int (if j > i then j else i)) H
theorem cl_max2 {X : Cx} (hc : X.calm = true) : CallR X (.builtin "max") rMx2 := call_max2 hc
def rMn2 : List V → Hp → VK → Prop := fun xs H Q => ∃ i j, xs = [.int i, .int j] ∧ Q (.int (if j < i then j else i)) H
theorem cl_min2 {X : Cx} (hc : X.calm = true) : CallR X (.builtin "min") rMn2 := call_min2 hc
def rLsK (K : PySem.W.Frag) : List V → Hp → VK → Prop := fun xs H Q => ∃ p ys, xs = [.ref p] ∧ (SqL K H p ys ∨ SqT K H p ys) ∧ ∀ l, H l = none → Q (.ref l) (upd H l (.lst ys))
theorem cl_list {X : Cx} : CallR X (.type "list") (rLsK X.K) := call_list_of
def rAbs : List V → Hp → VK → Prop := fun xs H Q => ∃ i, xs = [.int i] ∧ Q (.int (if i < 0 then -i else i)) H
theorem cl_abs {X : Cx} : CallR X (.builtin "abs") rAbs := call_abs
def rIntB : List V → Hp → VK → Prop := fun xs H Q => (∃ i, xs = [.int i] ∧ Q (.int i) H) ∨ ∃ k, xs = [.bl k] ∧ Q (.int (if k then 1 else 0)) H
theorem cl_int {X : Cx} : CallR X (.type "int") rIntB := call_int1
section
variable {K : PySem.W.Frag} {H0 H H' : Hp} {T : List (Addr × Str)} {L L' : List Cell} {a p l q : Addr} {o : HO} {xs ys : List V} {qs : List Addr} {rows : List (List V)} {σ : L2.St} {Q : VK} {E : XK} {D : Ends} {v x y : V} {R : Prop}
  {i j : Int} {n : Nat} {ta tb te : TE} {tt tu : TT} {t tr : TA} {r : R2} {b c : Bool} {Qb : Bool → Hp → Prop} {Ql : List V → Hp → Prop} {g : TG} {s u : TS} {wi : TI}
theorem s_var {i : Nat} (h : σ[i]? = some (some v)) (k : Q v H) : tVar i σ H Q := ⟨v, h, k⟩
theorem s_C (k : Q v H) : tC v σ H Q := k
theorem s_op (k : ta σ H fun x H1 => tb σ H1 fun y H2 => r x y H2 Q) : tOp r ta tb σ H Q := k
theorem s_un {r : V → Hp → VK → Prop} (k : ta σ H fun x H1 => r x H1 Q) : tUn r ta σ H Q := k
theorem s_i0 {g : Int → Int → V} (k : Q (g i j) H) : rI0 g (.int i) (.int j) H Q := ⟨i, j, rfl, rfl, k⟩
theorem s_i {C : Int → Int → Prop} {g : Int → Int → V} (c : C i j) (k : Q (g i j) H) : rI C g (.int i) (.int j) H Q := ⟨i, j, rfl, rfl, c, k⟩
theorem s_u {g : Int → V} (k : Q (g i) H) : rU g (.int i) H Q := ⟨i, rfl, k⟩
theorem s_eqI (k : Q (.bl (decide (i = j))) H) : rEq (.int i) (.int j) H Q := ⟨rfl, by
  have e : decide (V.int i = V.int j) = decide (i = j) := by rw [Bool.eq_iff_iff]; simp
  rw [e]; exact k⟩
theorem s_neI (k : Q (.bl (!decide (i = j))) H) : rNe (.int i) (.int j) H Q := ⟨rfl, by
  have e : decide (V.int i = V.int j) = decide (i = j) := by rw [Bool.eq_iff_iff]; simp
  rw [e]; exact k⟩
theorem s_isB (k : Q (.bl (decide (b = c))) H) : rIsB (.bl b) (.bl c) H Q := ⟨b, c, rfl, rfl, k⟩
theorem s_notB (k : Q (.bl (!decide (b = c))) H) : rNotB (.bl b) (.bl c) H Q := ⟨b, c, rfl, rfl, k⟩
theorem s_test (k : te σ H fun x H1 => ∃ b, x = .bl b ∧ Qb b H1) : tTest te σ H Qb := k
theorem s_tB (k : te σ H fun x H1 => ∃ b, x = .bl b ∧ Qb b H1) : tB te σ H Qb := k
theorem s_bl (k : Qb b H) : ∃ b', V.bl b = .bl b' ∧ Qb b' H := ⟨b, rfl, k⟩
theorem s_and (k : tt σ H fun c H1 => if c = true then tu σ H1 Qb else Qb false H1) : tAnd tt tu σ H Qb := k
theorem s_or (k : tt σ H fun c H1 => if c = true then Qb true H1 else tu σ H1 Qb) : tOr tt tu σ H Qb := k
theorem s_not (k : tt σ H fun c H1 => Qb (!c) H1) : tNot tt σ H Qb := k
theorem s_andV (k : ta σ H fun x H1 => ∃ c, x = .bl c ∧ if c = true then tb σ H1 Q else Q (.bl false) H1) : tAndV ta tb σ H Q := k
theorem s_orV (k : ta σ H fun x H1 => ∃ c, x = .bl c ∧ if c = true then Q (.bl true) H1 else tb σ H1 Q) : tOrV ta tb σ H Q := k
theorem s_notV (k : ta σ H fun x H1 => ∃ c, x = .bl c ∧ Q (.bl (!c)) H1) : tNotV ta σ H Q := k
theorem s_blV {F : Bool → Prop} (k : F b) : ∃ b', V.bl b = .bl b' ∧ F b' := ⟨b, rfl, k⟩
theorem s_ifx (k : tt σ H fun c H1 => if c = true then ta σ H1 Q else tb σ H1 Q) : tIf tt ta tb σ H Q := k
theorem s_nil (k : Ql [] H) : tNil σ H Ql := k
theorem s_cons (k : ta σ H fun x H1 => tr σ H1 fun xs H2 => Ql (x :: xs) H2) : tCons ta tr σ H Ql := k
theorem s_cb {r : List V → Hp → VK → Prop} (k : t σ H fun vs H1 => r vs H1 Q) : tCB r t σ H Q := k
theorem s_call {sp : Sp} (k : t σ H fun vs H1 => sp vs H1 Q E) : tCall sp [] E t σ H Q := by
  have e : (fun vs H1 => sp (vs ++ []) H1 Q E) = fun vs H1 => sp vs H1 Q E := by funext vs H1; rw [List.append_nil]
  show t σ H fun vs H1 => sp (vs ++ []) H1 Q E
  rw [e]
  exact k
def NewL (xs : List V) (H : Hp) (Q : VK) : Prop := xs.length ≤ sizeLine ∧ ∀ p, H p = none → Q (.ref p) (upd H p (.lst xs))
def NewT (xs : List V) (H : Hp) (Q : VK) : Prop := xs.length ≤ sizeLine ∧ ∀ p, H p = none → Q (.ref p) (upd H p (.tup xs))
theorem s_lst (k : t σ H fun xs H1 => NewL xs H1 Q) : tLst t σ H Q := k
theorem s_tup (k : t σ H fun xs H1 => NewT xs H1 Q) : tTup t σ H Q := k
theorem s_newL (B : Own H0 H T L) (h : xs.length ≤ sizeLine) (k : ∀ p H', Own H0 H' T (.ob p (.lst xs) :: L) → Q (.ref p) H') : NewL xs H Q := ⟨h, fun p n => k p _ (B.new n trivial)⟩
theorem s_newT (B : Own H0 H T L) (h : xs.length ≤ sizeLine) (k : ∀ p H', Own H0 H' T (.ob p (.tup xs) :: L) → Q (.ref p) H') : NewT xs H Q := ⟨h, fun p n => k p _ (B.new n trivial)⟩
/-! reading lists -/
theorem s_ix (B : Own H0 H T L) [P : Pull L a (.ob a (.lst xs)) L'] (h : atI xs i = some v) (k : Q v H) : rIxL K (.ref a) (.int i) H Q := ⟨a, xs, i, v, rfl, rfl, SqL.of (B.get a), h, k⟩
theorem s_ixN (B : Own H0 H T L) [P : Pull L a (.ob a (.lst xs)) L'] (h : xs[n]? = some v) (k : Q v H) : rIxL K (.ref a) (.int (n : Int)) H Q := ⟨a, xs, _, v, rfl, rfl, SqL.of (B.get a), atI_nat h, k⟩
theorem s_ixF (B : Own H0 H T L) [P : Pull L p (.fm p qs rows) L'] (h : qs[n]? = some q) (k : Q (.ref q) H) : rIxL K (.ref p) (.int (n : Int)) H Q :=
  ⟨p, _, _, _, rfl, rfl, SqL.of (B.getF p), atI_nat (by rw [List.getElem?_map, h]; rfl), k⟩
theorem s_ixS (h : SqL K H a xs) (e : atI xs i = some v) (k : Q v H) : rIxL K (.ref a) (.int i) H Q := ⟨a, xs, i, v, rfl, rfl, h, e, k⟩
theorem s_ixT (B : Own H0 H T L) [P : Pull L a (.ob a (.tup xs)) L'] (h : atI xs i = some v) (k : Q v H) : rIxT K (.ref a) (.int i) H Q := ⟨a, xs, i, v, rfl, rfl, SqT.of (B.get a), h, k⟩
theorem s_len (B : Own H0 H T L) [P : Pull L a (.ob a (.lst xs)) L'] (k : Q (.int (xs.length : Int)) H) : rLenK K [.ref a] H Q := ⟨a, xs, rfl, .inl (SqL.of (B.get a)), k⟩
theorem s_lenF (B : Own H0 H T L) [P : Pull L p (.fm p qs rows) L'] (k : Q (.int (qs.length : Int)) H) : rLenK K [.ref p] H Q := by
  refine ⟨p, _, rfl, .inl (SqL.of (B.getF p)), ?_⟩
  rw [List.length_map]; exact k
theorem s_lenS (h : SqL K H a xs) (k : Q (.int (xs.length : Int)) H) : rLenK K [.ref a] H Q := ⟨a, xs, rfl, .inl h, k⟩
theorem s_max2 (k : Q (.int (if j > i then j else i)) H) : rMx2 [.int i, .int j] H Q := ⟨i, j, rfl, k⟩
theorem s_min2 (k : Q (.int (if j < i then j else i)) H) : rMn2 [.int i, .int j] H Q := ⟨i, j, rfl, k⟩
theorem s_abs (k : Q (.int (if i < 0 then -i else i)) H) : rAbs [.int i] H Q := ⟨i, rfl, k⟩
theorem s_intB (k : Q (.int (if b then 1 else 0)) H) : rIntB [.bl b] H Q := .inr ⟨b, rfl, k⟩
theorem s_list (B : Own H0 H T L) (h : H a = some (.lst xs)) (k : ∀ p H', Own H0 H' T (.ob p (.lst xs) :: L) → Q (.ref p) H') : rLsK K [.ref a] H Q := ⟨a, xs, rfl, .inl (SqL.of h), fun p n => k p _ (B.new n trivial)⟩
/-! writing lists -/
theorem s_bm {Tn : String} {r : V → List V → Hp → VK → Prop} (k : te σ H fun x H1 => tyV K Tn x H1 ∧ t σ H1 fun xs H2 => r x xs H2 Q) : tBM K Tn r te t σ H Q := k
theorem s_bm0 {Tn : String} {r : V → List V → Hp → VK → Prop} (k : te σ H fun x H1 => tyV K Tn x H1 ∧ r x [] H1 Q) : tBM0 K Tn r te σ H Q := k
theorem s_ty (B : Own H0 H T L) [P : Pull L a (.ob a (.lst xs)) L'] (k : R) : tyV K "list" (.ref a) H ∧ R := ⟨.inl ⟨rfl, _, SqL.of (B.get a)⟩, k⟩
theorem s_tyF (B : Own H0 H T L) [P : Pull L p (.fm p qs rows) L'] (k : R) : tyV K "list" (.ref p) H ∧ R := ⟨.inl ⟨rfl, _, SqL.of (B.getF p)⟩, k⟩
theorem Own.rowAt (B : Own H0 H T L) (p : Addr) [P : Pull L p (.fm p qs rows) L'] (h : qs[n]? = some q) (h2 : rows[n]? = some xs) : H q = some (.lst xs) := (B.rowsF p).get n q xs h h2
theorem s_tyH (h : H a = some (.lst xs)) (k : R) : tyV K "list" (.ref a) H ∧ R := ⟨.inl ⟨rfl, _, SqL.of h⟩, k⟩
theorem s_append (B : Own H0 H T L) [P : Pull L a (.ob a (.lst xs)) L'] (h : xs.length < sizeLine) (k : ∀ H', Own H0 H' T (.ob a (.lst (xs ++ [y])) :: L') → Q .non H') : rAppend (.ref a) [y] H Q :=
  ⟨a, xs, y, rfl, rfl, B.get a, h, k _ ((B.pull a).wr trivial)⟩
theorem s_appendR (B : Own H0 H T L) (p : Addr) [P : Pull L p (.fm p qs rows) L'] (h1 : qs[n]? = some q) (h2 : rows[n]? = some xs) (h : xs.length < sizeLine)
    (k : ∀ H', Own H0 H' T (.fm p qs (rows.set n (xs ++ [y])) :: L') → Q .non H') : rAppend (.ref q) [y] H Q :=
  ⟨q, xs, y, rfl, rfl, B.rowAt p h1 h2, h, k _ ((B.pull p).row h1 _)⟩
theorem s_appendF (B : Own H0 H T L) (p l : Addr) {L1 : List Cell} [P1 : Pull L p (.fm p qs rows) L1] [P2 : Pull L1 l (.ob l (.lst xs)) L'] (h : qs.length < sizeLine)
    (k : ∀ H', Own H0 H' T (.fm p (qs ++ [l]) (rows ++ [xs]) :: L') → Q .non H') : rAppend (.ref p) [.ref l] H Q := by
  have B2 : Own H0 H T (.ob l (.lst xs) :: .fm p qs rows :: L') := B.perm (P1.p.trans ((P2.p.cons _).trans (List.Perm.swap ..)))
  exact ⟨p, _, _, rfl, rfl, B.getF p, by rw [List.length_map]; exact h, k _ B2.pushF⟩
theorem s_extend (B : Own H0 H T L) [P : Pull L a (.ob a (.lst xs)) L'] (h2 : H l = some (.lst ys)) (h : xs.length + ys.length ≤ sizeLine) (k : ∀ H', Own H0 H' T (.ob a (.lst (xs ++ ys)) :: L') → Q .non H') : rExtend (.ref a) [.ref l] H Q :=
  ⟨a, l, xs, ys, rfl, rfl, B.get a, h2, h, k _ ((B.pull a).wr trivial)⟩
theorem s_extendR (B : Own H0 H T L) (p : Addr) [P : Pull L p (.fm p qs rows) L'] (h1 : qs[n]? = some q) (h3 : rows[n]? = some xs) (h2 : H l = some (.lst ys)) (h : xs.length + ys.length ≤ sizeLine)
    (k : ∀ H', Own H0 H' T (.fm p qs (rows.set n (xs ++ ys)) :: L') → Q .non H') : rExtend (.ref q) [.ref l] H Q :=
  ⟨q, l, xs, ys, rfl, rfl, B.rowAt p h1 h3, h2, h, k _ ((B.pull p).row h1 _)⟩
theorem s_popAt (B : Own H0 H T L) [P : Pull L a (.ob a (.lst xs)) L'] (h0 : (n : Int) < 2 ^ 63) (h : xs[n]? = some y) (k : ∀ H', Own H0 H' T (.ob a (.lst (xs.eraseIdx n)) :: L') → Q y H') : rPopAt (.ref a) [.int (n : Int)] H Q := by
  have hl := (List.getElem?_eq_some_iff.mp h).1
  refine ⟨a, xs, n, n, y, rfl, rfl, B.get a, by omega, h0, ?_, h, k _ ((B.pull a).wr trivial)⟩
  unfold seqIndex?
  have e0 : ¬ ((n : Int) < 0) := by omega
  have e1 : (n : Int) < (xs.length : Int) := by omega
  simp [e0, e1]
theorem s_popR (B : Own H0 H T L) (p : Addr) [P : Pull L p (.fm p qs rows) L'] (h1 : qs[n]? = some q) (h2 : rows[n]? = some xs) (h : xs[xs.length - 1]? = some y)
    (k : ∀ H', Own H0 H' T (.fm p qs (rows.set n xs.dropLast) :: L') → Q y H') : rPop (.ref q) [] H Q :=
  ⟨q, xs, y, rfl, rfl, B.rowAt p h1 h2, h, k _ ((B.pull p).row h1 _)⟩
theorem s_popAtR (B : Own H0 H T L) (p : Addr) [P : Pull L p (.fm p qs rows) L'] {m : Nat} (h1 : qs[n]? = some q) (h2 : rows[n]? = some xs) (h0 : (m : Int) < 2 ^ 63) (h : xs[m]? = some y)
    (k : ∀ H', Own H0 H' T (.fm p qs (rows.set n (xs.eraseIdx m)) :: L') → Q y H') : rPopAt (.ref q) [.int (m : Int)] H Q := by
  have hl := (List.getElem?_eq_some_iff.mp h).1
  refine ⟨q, xs, m, m, y, rfl, rfl, B.rowAt p h1 h2, by omega, h0, ?_, h, k _ ((B.pull p).row h1 _)⟩
  unfold seqIndex?
  have e0 : ¬ ((m : Int) < 0) := by omega
  have e1 : (m : Int) < (xs.length : Int) := by omega
  simp [e0, e1]
theorem s_cat (B : Own H0 H T L) (h1 : H a = some (.lst xs)) (h2 : H l = some (.lst ys)) (h : xs.length + ys.length ≤ sizeLine) (k : ∀ p H', Own H0 H' T (.ob p (.lst (xs ++ ys)) :: L) → Q (.ref p) H') : rCat (.ref a) (.ref l) H Q :=
  ⟨a, l, xs, ys, rfl, rfl, h1, h2, h, fun p n => k p _ (B.new n trivial)⟩
def RevAt (K : PySem.W.Frag) (x : V) (H : Hp) (Q : VK) : Prop := ∃ a xs, x = .ref a ∧ SqL K H a xs ∧ ∀ p, H p = none → Q (.ref p) (upd H p (.lst xs.reverse))
theorem s_revL (k : te σ H fun x H1 => RevAt K x H1 Q) : tRevL K te σ H Q := k
theorem s_rev (B : Own H0 H T L) [P : Pull L a (.ob a (.lst xs)) L'] (k : ∀ p H', Own H0 H' T (.ob p (.lst xs.reverse) :: L) → Q (.ref p) H') : RevAt K (.ref a) H Q := ⟨a, xs, rfl, SqL.of (B.get a), fun p n => k p _ (B.new n trivial)⟩
theorem s_sort {ns : List Int} (B : Own H0 H T L) [P : Pull L a (.ob a (.lst (ns.map V.int))) L'] (k : ∀ (ns' : List Int) p H', ns'.Perm ns → ns'.Pairwise (· ≤ ·) → Own H0 H' T (.ob p (.lst (ns'.map V.int)) :: L) → Q (.ref p) H') : rSortA K [.ref a] H Q :=
  ⟨a, ns, rfl, SqL.of (B.get a), fun ns' p pe so n => k ns' p _ pe so (B.new n trivial)⟩
/-! statements -/
theorem s_next : D.nx σ H → tNext D σ H := id
theorem s_seq (k : s { D with nx := u D } σ H) : tSeq s u D σ H := k
theorem s_asg (k : te σ H fun x H1 => g x σ H1 D.nx) : tAsg te g D σ H := k
theorem s_gn {i : Nat} {Qs : L2.St → Hp → Prop} (k : Qs (σ.set i (some v)) H) : gName i v σ H Qs := k
theorem s_drop (k : te σ H fun _ H1 => D.nx σ H1) : tDrop te D σ H := k
theorem s_ret (k : te σ H D.rt) : tRet te D σ H := k
theorem s_ifs (k : tt σ H fun b H1 => if b = true then s D σ H1 else u D σ H1) : tIfS tt s u D σ H := k
theorem s_brk (k : D.bk σ H) : tBreak D σ H := k
theorem s_cnt (k : D.ct σ H) : tCont D σ H := k
def ParAt (i j : Nat) (D : Ends) (σ : L2.St) (vs : List V) (H : Hp) : Prop := ∃ v w, vs = [v, w] ∧ D.nx ((σ.set i (some v)).set j (some w)) H
theorem s_parS {i j : Nat} (k : t σ H fun vs H1 => ParAt i j D σ vs H1) : tPar i j t D σ H := k
theorem s_par {i j : Nat} (k : D.nx ((σ.set i (some x)).set j (some y)) H) : ParAt i j D σ [x, y] H := ⟨x, y, rfl, k⟩
theorem s_gt {t : TGs} {Qs : L2.St → Hp → Prop} (B : Own H0 H T L) [P : Pull L a (.ob a (.tup xs)) L'] (h : xs.length = n) (k : t xs σ H Qs) : gTup K n t (.ref a) σ H Qs := ⟨a, xs, rfl, SqT.of (B.get a), h, k⟩
theorem s_gc {t : TG} {u : TGs} {Qs : L2.St → Hp → Prop} (k : t x σ H fun σ' H' => u xs σ' H' Qs) : gCons t u (x :: xs) σ H Qs := ⟨x, xs, rfl, k⟩
theorem s_gnil {Qs : L2.St → Hp → Prop} (k : Qs σ H) : gNil [] σ H Qs := ⟨rfl, k⟩
def SetAt (ti : TE) (t : TSet) (v : V) (σ : L2.St) (Q : L2.St → Hp → Prop) (o : V) (H1 : Hp) : Prop := ti σ H1 fun i H2 => t o i v H2 fun H3 => Q σ H3
theorem s_gsub {to ti : TE} {t : TSet} {Qs : L2.St → Hp → Prop} (k : to σ H fun o H1 => ti σ H1 fun i H2 => t o i v H2 fun H3 => Qs σ H3) : gSub to ti t v σ H Qs := k
theorem s_setL {Qh : Hp → Prop} (B : Own H0 H T L) [P : Pull L a (.ob a (.lst xs)) L'] (h : n < xs.length) (k : ∀ H', Own H0 H' T (.ob a (.lst (xs.set n v)) :: L') → Qh H') : rSetL (.ref a) (.int (n : Int)) v H Qh := by
  refine ⟨a, xs, n, n, rfl, rfl, B.get a, ?_, k _ ((B.pull a).wr trivial)⟩
  unfold ixN
  have e0 : ¬ ((n : Int) < 0) := by omega
  have e1 : (n : Int) < (xs.length : Int) := by omega
  simp [e0, e1]
/-! iterations -/
def ItL (K : PySem.W.Frag) (x : V) (H : Hp) (R : It → Hp → Prop) : Prop := ∃ a, x = .ref a ∧ (∃ xs, SqL K H a xs) ∧ R (Itl K a) H
theorem s_iList {R : It → Hp → Prop} (k : te σ H fun x H1 => ItL K x H1 R) : iList K te σ H R := k
theorem s_itH {R : It → Hp → Prop} (h : H a = some (.lst xs)) (k : R (Itl K a) H) : ItL K (.ref a) H R := ⟨a, rfl, ⟨_, SqL.of h⟩, k⟩
theorem s_itS {R : It → Hp → Prop} (h : SqL K H a xs) (k : R (Itl K a) H) : ItL K (.ref a) H R := ⟨a, rfl, ⟨_, h⟩, k⟩
def ItR (vs : List V) (H : Hp) (R : It → Hp → Prop) : Prop := ∃ j : Int, vs = [.int j] ∧ -(2 ^ 62) ≤ j ∧ j < 2 ^ 62 ∧ R (Itr 0 j.toNat) H
theorem s_iRng {R : It → Hp → Prop} (k : t σ H fun vs H1 => ItR vs H1 R) : iRng1 t σ H R := k
theorem s_itR {R : It → Hp → Prop} (h0 : -(2 ^ 62) ≤ i) (h1 : i < 2 ^ 62) (k : R (Itr 0 i.toNat) H) : ItR [.int i] H R := ⟨i, rfl, h0, h1, k⟩
def ItE (K : PySem.W.Frag) (vs : List V) (H : Hp) (R : It → Hp → Prop) : Prop := ∃ a xs, vs = [.ref a] ∧ SqL K H a xs ∧ R (Ite K a) H
theorem s_iEnum {R : It → Hp → Prop} (k : t σ H fun vs H1 => ItE K vs H1 R) : iEnum K t σ H R := k
theorem s_itE {R : It → Hp → Prop} (h : H a = some (.lst xs)) (k : R (Ite K a) H) : ItE K [.ref a] H R := ⟨a, xs, rfl, SqL.of h, k⟩
def ForG (J : It) (g : TG) (tb : TS) (D : Ends) (σ : L2.St) (H : Hp) : Prop := ∃ W : Nat → Nat → L2.St → Hp → Prop, (∃ m, W 0 m σ H) ∧ ∀ i m σ H, W i m σ H →
  (J.stop i H ∧ D.nx σ H) ∨ (J.go i H ∧ ∃ N : L2.St → Hp → Prop, (∀ σ' H', N σ' H' → ∃ m', m' < m ∧ W (i + 1) m' σ' H') ∧ ∀ x H', J.yld i H x H' → g x σ H' fun σ2 H2 => tb { D with nx := N, ct := N, bk := D.nx } σ2 H2)
theorem s_for (k : wi σ H fun J H1 => ForG J g s D σ H1) : tFor wi g s D σ H := k
/-- an invariant over what is held -/
def Inn (H0 : Hp) (T : List (Addr × Str)) (Pv : L2.St → List Cell → Prop) : L2.St → Hp → Prop := fun σ H => ∃ L, Pv σ L ∧ Own H0 H T L
theorem Inn.mk {Pv : L2.St → List Cell → Prop} {M : List Cell} (B : Own H0 H T L) [A : Arr L M] (h : Pv σ M) : Inn H0 T Pv σ H := ⟨M, h, B.arr⟩
theorem s_forL (Pv : Nat → L2.St → List Cell → Prop) (xs : List V) (B : Own H0 H T L) (start : Pv 0 σ L) (stays : ∀ i σ L H, Pv i σ L → Own H0 H T L → SqL K H a xs)
    (turn : ∀ i x σ L H, xs[i]? = some x → Pv i σ L → Own H0 H T L → g x σ H fun σ2 H2 => s { D with nx := Inn H0 T (Pv (i + 1)), ct := Inn H0 T (Pv (i + 1)), bk := D.nx } σ2 H2)
    (last : ∀ σ L H, Pv xs.length σ L → Own H0 H T L → D.nx σ H) : ForG (Itl K a) g s D σ H :=
  for_list (K := K) (a := a) (xs := xs) (fun i => Inn H0 T (Pv i)) ⟨L, start, B⟩ (fun i σ H _ ⟨L, h, B⟩ => stays i σ L H h B) (fun i x σ H hx ⟨L, h, B⟩ => turn i x σ L H hx h B) (fun σ H ⟨L, h, B⟩ => last σ L H h B)
theorem s_forR (Pv : Nat → L2.St → List Cell → Prop) (B : Own H0 H T L) (start : Pv 0 σ L)
    (turn : ∀ i σ L H, i < n → Pv i σ L → Own H0 H T L → g (.int (i : Int)) σ H fun σ2 H2 => s { D with nx := Inn H0 T (Pv (i + 1)), ct := Inn H0 T (Pv (i + 1)), bk := D.nx } σ2 H2)
    (last : ∀ σ L H, Pv n σ L → Own H0 H T L → D.nx σ H) : ForG (Itr 0 n) g s D σ H :=
  for_range (lo := 0) (n := n) (fun i => Inn H0 T (Pv i)) ⟨L, start, B⟩ (fun i σ H hi ⟨L, h, B⟩ => by rw [Int.zero_add]; exact turn i σ L H hi h B) (fun σ H ⟨L, h, B⟩ => last σ L H h B)
/-- for i, x in enumerate(xs) -/
theorem s_forE {k1 k2 : Nat} (Pv : Nat → L2.St → List Cell → Prop) (xs : List V) (B : Own H0 H T L) (start : Pv 0 σ L) (stays : ∀ i σ L H, Pv i σ L → Own H0 H T L → SqL K H a xs)
    (turn : ∀ i x σ L H, xs[i]? = some x → Pv i σ L → Own H0 H T L → s { D with nx := Inn H0 T (Pv (i + 1)), ct := Inn H0 T (Pv (i + 1)), bk := D.nx } ((σ.set k1 (some (.int (i : Int)))).set k2 (some x)) H)
    (last : ∀ σ L H, Pv xs.length σ L → Own H0 H T L → D.nx σ H) : ForG (Ite K a) (gTup K 2 (gCons (gName k1) (gCons (gName k2) gNil))) s D σ H :=
  for_en (K := K) (a := a) (xs := xs) (fun i => Inn H0 T (Pv i)) ⟨L, start, B⟩ (fun i σ H _ ⟨L, h, B⟩ => stays i σ L H h B)
    (fun i x σ H tp hx ⟨L, h, B⟩ n => ⟨tp, _, rfl, SqT.of upd_same, rfl, _, _, rfl, _, _, rfl, rfl, turn i x σ L _ hx h (B.new (o := .tup [.int (i : Nat), x]) n trivial).tail⟩) (fun σ H ⟨L, h, B⟩ => last σ L H h B)
/-! comprehensions -/
def LcG (J : It) (g : TG) (tt : TT) (te : TE) (vs : List Nat) (σ : L2.St) (Q : VK) (H1 : Hp) : Prop := ∀ D, H1 D = none → ∃ W : Nat → Nat → Hp → Prop, (∃ m, W 0 m (upd H1 D (.lst []))) ∧ ∀ i m H, W i m H →
  (J.stop i H ∧ Q (.ref D) H) ∨ (J.go i H ∧ ∃ Nx : Hp → Prop, (∀ H', Nx H' → ∃ m', m' < m ∧ W (i + 1) m' H') ∧ ∀ x H', J.yld i H x H' → g x (wipe σ vs) H' fun σ2 H2 => wipe σ2 vs = wipe σ vs ∧ tt σ2 H2 fun b H3 =>
    if b = true then te σ2 H3 fun y H4 => ∃ acc, H4 D = some (.lst acc) ∧ acc.length < sizeLine ∧ Nx (upd H4 D (.lst (acc ++ [y]))) else Nx H3)
theorem s_lc {vs : List Nat} (k : wi σ H fun J H1 => LcG J g tt te vs σ Q H1) : tLc wi g tt te vs σ H Q := k
/-- the element behind what stands already -/
def El (H0 : Hp) (T : List (Addr × Str)) (D : Addr) (Pv : List V → List Cell → Prop) : VK := fun y H => ∃ acc L, acc.length < sizeLine ∧ Own H0 H T (.ob D (.lst acc) :: L) ∧ Pv (acc ++ [y]) L
/-- nothing is added -/
def NoEl (H0 : Hp) (T : List (Addr × Str)) (D : Addr) (Pv : List V → List Cell → Prop) : Hp → Prop := fun H => ∃ acc L, Own H0 H T (.ob D (.lst acc) :: L) ∧ Pv acc L
theorem Own.arrT {c : Cell} (B : Own H0 H T (c :: L)) {M : List Cell} [A : Arr L M] : Own H0 H T (c :: M) := by
  obtain ⟨N, p⟩ := A.r
  exact (B.perm (p.cons c)).sub ((List.sublist_append_left ..).cons_cons c)
theorem El.mk {acc : List V} {Pv : List V → List Cell → Prop} {M : List Cell} (B : Own H0 H T L) [P : Pull L a (.ob a (.lst acc)) L'] [A : Arr L' M] (hl : acc.length < sizeLine) (h : Pv (acc ++ [y]) M) : El H0 T a Pv y H := ⟨acc, M, hl, (B.pull a).arrT, h⟩
theorem NoEl.mk {acc : List V} {Pv : List V → List Cell → Prop} {M : List Cell} (B : Own H0 H T L) [P : Pull L a (.ob a (.lst acc)) L'] [A : Arr L' M] (h : Pv acc M) : NoEl H0 T a Pv H := ⟨acc, M, (B.pull a).arrT, h⟩
theorem El.use {D : Addr} {Pv : List V → List Cell → Prop} {y : V} {H : Hp} (h : El H0 T D Pv y H) : ∃ acc, H D = some (.lst acc) ∧ acc.length < sizeLine ∧ NoEl H0 T D Pv (upd H D (.lst (acc ++ [y]))) := by
  obtain ⟨acc, L, hl, B, h⟩ := h
  exact ⟨acc, B.head.1, hl, acc ++ [y], L, B.wr trivial, h⟩
/-- monotone readings -/
def MonoE (te : TE) : Prop := ∀ σ H (Q Q' : VK), (∀ v H', Q v H' → Q' v H') → te σ H Q → te σ H Q'
theorem s_lcL {kx : Nat} {vs : List Nat} (Pv : Nat → List V → List Cell → Prop) (xs : List V) (B : Own H0 H T L) (start : Pv 0 [] L) (stays : ∀ i acc L H, Pv i acc L → Own H0 H T L → SqL K H a xs)
    (wp : ∀ x : V, wipe ((wipe σ vs).set kx (some x)) vs = wipe σ vs)
    (turn : ∀ D i x acc L H, xs[i]? = some x → Pv i acc L → Own H0 H T (.ob D (.lst acc) :: L) → tt ((wipe σ vs).set kx (some x)) H fun b H3 =>
      if b = true then te ((wipe σ vs).set kx (some x)) H3 fun y H4 => ∃ acc, H4 D = some (.lst acc) ∧ acc.length < sizeLine ∧ NoEl H0 T D (Pv (i + 1)) (upd H4 D (.lst (acc ++ [y]))) else NoEl H0 T D (Pv (i + 1)) H3)
    (last : ∀ D acc L H, Pv xs.length acc L → Own H0 H T (.ob D (.lst acc) :: L) → Q (.ref D) H) : LcG (Itl K a) (gName kx) tt te vs σ Q H := fun D nD =>
  lc_list (K := K) (a := a) (xs := xs) (fun i => NoEl H0 T D (Pv i)) ⟨[], L, B.new nD trivial, start⟩ (fun i H _ ⟨acc, L, B, h⟩ => stays i acc L H h B.tail)
    (fun i x H hx ⟨acc, L, B, h⟩ => ⟨wp x, turn D i x acc L H hx h B⟩) (fun H ⟨acc, L, B, h⟩ => last D acc L H h B)
theorem s_lcR {kx : Nat} {vs : List Nat} (Pv : Nat → List V → List Cell → Prop) (B : Own H0 H T L) (start : Pv 0 [] L)
    (wp : ∀ x : V, wipe ((wipe σ vs).set kx (some x)) vs = wipe σ vs)
    (turn : ∀ D i acc L H, i < n → Pv i acc L → Own H0 H T (.ob D (.lst acc) :: L) → tt ((wipe σ vs).set kx (some (.int (i : Int)))) H fun b H3 =>
      if b = true then te ((wipe σ vs).set kx (some (.int (i : Int)))) H3 fun y H4 => ∃ acc, H4 D = some (.lst acc) ∧ acc.length < sizeLine ∧ NoEl H0 T D (Pv (i + 1)) (upd H4 D (.lst (acc ++ [y]))) else NoEl H0 T D (Pv (i + 1)) H3)
    (last : ∀ D acc L H, Pv n acc L → Own H0 H T (.ob D (.lst acc) :: L) → Q (.ref D) H) : LcG (Itr 0 n) (gName kx) tt te vs σ Q H := fun D nD =>
  lc_range (lo := 0) (n := n) (fun i => NoEl H0 T D (Pv i)) ⟨[], L, B.new nD trivial, start⟩
    (fun i H hi ⟨acc, L, B, h⟩ => ⟨wp _, by rw [Int.zero_add]; exact turn D i acc L H hi h B⟩) (fun H ⟨acc, L, B, h⟩ => last D acc L H h B)
theorem s_yes (k : Qb true H) : tYes σ H Qb := k
theorem s_el {Pv : List V → List Cell → Prop} {acc : List V} {M : List Cell} (B : Own H0 H T L) [P : Pull L a (.ob a (.lst acc)) L'] [A : Arr L' M] (hl : acc.length < sizeLine) (h : Pv (acc ++ [y]) M) :
    ∃ acc, H a = some (.lst acc) ∧ acc.length < sizeLine ∧ NoEl H0 T a Pv (upd H a (.lst (acc ++ [y]))) := (El.mk B hl h).use
/-- [f(x) for x in xs if p(x)] where neither changes anything -/
theorem s_lcP {kx : Nat} {vs : List Nat} (f : V → V) (pp : V → Bool) (xs : List V) (B : Own H0 H T L) (hs : SqL K H a xs) (hlen : xs.length < sizeLine) (stays : ∀ H, Own H0 H T L → SqL K H a xs)
    (wp : ∀ x : V, wipe ((wipe σ vs).set kx (some x)) vs = wipe σ vs)
    (test : ∀ (D : Addr) (acc : List V) (x : V) (H : Hp) (Qb : Bool → Hp → Prop), x ∈ xs → Own H0 H T (.ob D (.lst acc) :: L) → (∀ H', Own H0 H' T (.ob D (.lst acc) :: L) → Qb (pp x) H') → tt ((wipe σ vs).set kx (some x)) H Qb)
    (elem : ∀ (D : Addr) (acc : List V) (x : V) (H : Hp) (Q : VK), x ∈ xs → pp x = true → Own H0 H T (.ob D (.lst acc) :: L) → (∀ H', Own H0 H' T (.ob D (.lst acc) :: L) → Q (f x) H') → te ((wipe σ vs).set kx (some x)) H Q)
    (last : ∀ D H, Own H0 H T (.ob D (.lst ((xs.filter pp).map f)) :: L) → Q (.ref D) H) : LcG (Itl K a) (gName kx) tt te vs σ Q H := by
  refine s_lcL (fun i acc M => acc = ((xs.take i).filter pp).map f ∧ M = L) xs B ⟨rfl, rfl⟩ ?_ wp ?_ ?_
  · rintro i acc M H ⟨_, rfl⟩ B
    exact stays H B
  · rintro D i x acc M H hx ⟨rfl, rfl⟩ B
    have hm : x ∈ xs := List.mem_of_getElem? hx
    have tk : (xs.take (i + 1)).filter pp = (xs.take i).filter pp ++ (if pp x then [x] else []) := by
      rw [List.take_add_one, hx, List.filter_append]
      congr 1
      by_cases h : pp x = true <;> simp [h]
    refine test D _ x H _ hm B (fun H' B' => ?_)
    by_cases h : pp x = true
    · rw [h]
      refine iteT (elem D _ x H' _ hm h B' (fun H2 B2 => ?_))
      refine s_el B2 ?_ ⟨?_, rfl⟩
      · rw [List.length_map]
        have h1 := List.length_filter_le pp (xs.take i)
        rw [List.length_take] at h1
        omega
      · rw [tk, h, List.map_append]; rfl
    · have h2 : pp x = false := by simpa using h
      rw [h2]
      refine iteF (NoEl.mk B' ⟨?_, rfl⟩)
      rw [tk, h2]
      simp
  · rintro D acc M H ⟨rfl, rfl⟩ B
    rw [List.take_length] at B
    exact last D H B
theorem iteD {A B pr : Prop} [Decidable pr] (h1 : pr → A) (h2 : ¬ pr → B) : if decide pr = true then A else B := ite2 (fun e => h1 (of_decide_eq_true e)) (fun e => h2 fun z => e (decide_eq_true z))
theorem iteND {A B pr : Prop} [Decidable pr] (h1 : ¬ pr → A) (h2 : pr → B) : if (!decide pr) = true then A else B := ite2 (fun e => h1 (by simpa using e)) (fun e => h2 (by simpa using e))
theorem iteB {A B : Prop} (b : Bool) (h1 : b = true → A) (h2 : b = false → B) : if b = true then A else B := by
  cases b with
  | true => exact iteT (h1 rfl)
  | false => exact iteF (h2 rfl)
end
/-! what a def needs of another -/
structure Cal (P : Program) (w : World) (K : PySem.W.Frag) (mg : Str → Option Value) (base : Heap) (k : Nat) (nm : Str) (ps : List Str) (sp : Sp) : Prop where
  ex : ∃ (f : Addr) (fd : FuncData), FnOk P w K mg base CX0 k f fd ps sp ∧ mg nm = some (.ref f) ∧ PySem.W.keepIn K (.ref f) = true ∧ Binds K fd ps []
theorem Cal.mono {P : Program} {w : World} {K : PySem.W.Frag} {mg : Str → Option Value} {base : Heap} {j k : Nat} {nm : Str} {ps : List Str} {sp : Sp} (C : Cal P w K mg base j nm ps sp) (h : j ≤ k) : Cal P w K mg base k nm ps sp := by
  obtain ⟨f, fd, F, r⟩ := C.ex
  exact ⟨f, fd, F.mono h, r⟩
theorem pe_cal {X : Cx} {k : Nat} {nm : Str} {ps : List Str} {sp : Sp} {e : Expr} {es : List Expr} {p pos : Pos} {t : TA} (C : Cal X.prog X.w X.K X.mg X.base k nm ps sp) (room : Room k X.A) (gl : Gl X nm) (ha : PA X (e :: es) t)
    (hdb : (nm == ("__debug__" : Str)) = false := by decide) (he : starEach (e :: es) X.env = (false, eval e X.env) :: starEach es X.env := by rfl) (hpl : (backTo pos (starEach es X.env)).any (·.1) = false := by rfl) :
    PE X (.Call (.Name nm p) (e :: es) [] pos) (tCall sp [] E0 t) := by
  obtain ⟨f, fd, F, g, kp, b⟩ := C.ex
  exact pe_call F room gl g kp b .nil pass0 ha hdb he hpl
end My
namespace My
open PySem PySem.Spec PyProof.Rows L2 LamX
theorem natv {v : Int} (h : 0 ≤ v) : ∃ n : Nat, v = (n : Int) := ⟨v.toNat, by omega⟩
theorem hu65_of {k : Nat} {A : Around} (hr : Room k A) : A.units + 65 < cLine := by have := hr.un; omega
theorem hu100_of {k : Nat} {A : Around} (hr : Room k A) : A.units + 100 < cLine := by have := hr.un; omega
theorem cpow_ok {i j : Int} (h0 : 0 ≤ j) (h1 : j ≤ 1000000) (h2 : i.natAbs < 2 ^ 64) : CPow i j := ⟨h0, h1, h2⟩
theorem cmul_l {i j : Int} (h0 : -(2 ^ 64) < i) (h1 : i < 2 ^ 64) : CMul i j := .inl ⟨h0, h1⟩
theorem cmul_r {i j : Int} (h0 : -(2 ^ 64) < j) (h1 : j < 2 ^ 64) : CMul i j := .inr ⟨h0, h1⟩
def rRng1 : List V → Hp → VK → Prop := fun vs H Q => ∃ j, vs = [V.int j] ∧ ∀ p, H p = none → Q (.ref p) (upd H p (.rng 0 j))
end My
namespace My
open PySem PySem.Spec PyProof.Rows L2 LamX
section
variable {K : PySem.W.Frag} {H0 H H' : Hp} {T : List (Addr × Str)} {L L' : List Cell} {a p l q : Addr} {xs ys : List V} {qs : List Addr} {rows : List (List V)} {fam : List (List Int)} {f : List Int} {σ : L2.St} {Q : VK} {D : Ends} {v x : V} {y : Int} {R : Prop}
  {n m : Nat} {tt : TT} {tb : TS} {te : TE} {kx : Nat} {vs : List Nat}
/-! a family's rows -/
theorem vv_get (h : fam[n]? = some f) : (vv fam)[n]? = some (f.map V.int) := by rw [List.getElem?_map, h]; rfl
theorem vv_app (a b : List (List Int)) : vv (a ++ b) = vv a ++ vv b := List.map_append ..
theorem vv_set : (vv fam).set n (f.map V.int) = vv (fam.set n f) := (List.map_set ..).symm
theorem Own.lenF (B : Own H0 H T L) (p : Addr) [P : Pull L p (.fm p qs (vv fam)) L'] : qs.length = fam.length := by
  have h := (B.rowsF p).len
  rwa [vv_len] at h
theorem Own.qrow (B : Own H0 H T L) (p : Addr) [P : Pull L p (.fm p qs (vv fam)) L'] (h : fam[n]? = some f) : ∃ q, qs[n]? = some q ∧ H q = some (.lst (f.map V.int)) := by
  have hl : n < qs.length := by rw [B.lenF p]; exact (List.getElem?_eq_some_iff.mp h).1
  exact ⟨qs[n], List.getElem?_eq_getElem hl, B.rowAt p (List.getElem?_eq_getElem hl) (vv_get h)⟩
theorem Own.rowOf (B : Own H0 H T L) (p : Addr) [P : Pull L p (.fm p qs (vv fam)) L'] (h : qs[n]? = some q) : ∃ f, fam[n]? = some f ∧ H q = some (.lst (f.map V.int)) := by
  have hl : n < fam.length := by rw [← B.lenF p]; exact (List.getElem?_eq_some_iff.mp h).1
  exact ⟨fam[n], List.getElem?_eq_getElem hl, B.rowAt p h (vv_get (List.getElem?_eq_getElem hl))⟩
theorem s_appendV (B : Own H0 H T L) (p : Addr) [P : Pull L p (.fm p qs (vv fam)) L'] (h1 : qs[n]? = some q) (h2 : fam[n]? = some f) (h : f.length < sizeLine)
    (k : ∀ H', Own H0 H' T (.fm p qs (vv (fam.set n (f ++ [y]))) :: L') → Q .non H') : rAppend (.ref q) [.int y] H Q :=
  s_appendR B p h1 (vv_get h2) (by rw [List.length_map]; exact h) fun H' B' => k H' (by
    have e : f.map V.int ++ [V.int y] = (f ++ [y]).map V.int := by rw [List.map_append]; rfl
    rw [e, vv_set] at B'
    exact B')
theorem s_extendV {g : List Int} (B : Own H0 H T L) (p : Addr) [P : Pull L p (.fm p qs (vv fam)) L'] (h1 : qs[n]? = some q) (h2 : fam[n]? = some f) (h3 : H l = some (.lst (g.map V.int))) (h : f.length + g.length ≤ sizeLine)
    (k : ∀ H', Own H0 H' T (.fm p qs (vv (fam.set n (f ++ g))) :: L') → Q .non H') : rExtend (.ref q) [.ref l] H Q :=
  s_extendR B p h1 (vv_get h2) h3 (by rw [List.length_map, List.length_map]; exact h) fun H' B' => k H' (by
    rw [← List.map_append, vv_set] at B'
    exact B')
theorem s_popAtV {z : Int} (B : Own H0 H T L) (p : Addr) [P : Pull L p (.fm p qs (vv fam)) L'] (h1 : qs[n]? = some q) (h2 : fam[n]? = some f) (h0 : (m : Int) < 2 ^ 63) (h : f[m]? = some z)
    (k : ∀ H', Own H0 H' T (.fm p qs (vv (fam.set n (f.eraseIdx m))) :: L') → Q (.int z) H') : rPopAt (.ref q) [.int (m : Int)] H Q :=
  s_popAtR B p h1 (vv_get h2) h0 (by rw [List.getElem?_map, h]; rfl) fun H' B' => k H' (by
    rw [erase_map, vv_set] at B'
    exact B')
theorem s_popV {z : Int} {g : List Int} (B : Own H0 H T L) (p : Addr) [P : Pull L p (.fm p qs (vv fam)) L'] (h1 : qs[n]? = some q) (h2 : fam[n]? = some (g ++ [z]))
    (k : ∀ H', Own H0 H' T (.fm p qs (vv (fam.set n g)) :: L') → Q (.int z) H') : rPop (.ref q) [] H Q :=
  s_popR B p h1 (vv_get h2) (y := .int z) (by rw [List.length_map, List.length_append]; simp) fun H' B' => k H' (by
    have e : ((g ++ [z]).map V.int).dropLast = g.map V.int := by rw [List.map_append]; simp
    rw [e, vv_set] at B'
    exact B')
theorem Own.setF (B : Own H0 H T L) (p : Addr) [P : Pull L p (.fm p qs (vv fam)) L'] : H p = some (.lst (qs.map V.ref)) := B.getF p
/-! while -/
def WhN (H0 : Hp) (T : List (Addr × Str)) (Pv : Nat → L2.St → List Cell → Prop) (m : Nat) : L2.St → Hp → Prop := fun σ H => ∃ m' L, m' < m ∧ Pv m' σ L ∧ Own H0 H T L
def WhB (H0 : Hp) (T : List (Addr × Str)) (Pv : Nat → L2.St → List Cell → Prop) (m : Nat) (tb : TS) (D : Ends) (σ : L2.St) (H1 : Hp) : Prop :=
  ∃ N : L2.St → Hp → Prop, (∀ σ' H', N σ' H' → ∃ m', m' < m ∧ ∃ L, Pv m' σ' L ∧ Own H0 H' T L) ∧ tb { D with nx := N, ct := N, bk := D.nx } σ H1
theorem s_whB {Pv : Nat → L2.St → List Cell → Prop} (k : tb { D with nx := WhN H0 T Pv m, ct := WhN H0 T Pv m, bk := D.nx } σ H) : WhB H0 T Pv m tb D σ H :=
  ⟨_, fun σ' H' ⟨m', L, h1, h2, h3⟩ => ⟨m', h1, L, h2, h3⟩, k⟩
theorem WhN.mk {Pv : Nat → L2.St → List Cell → Prop} {M : List Cell} (B : Own H0 H T L) [A : Arr L M] (n : Nat) (hn : n < m) (h : Pv n σ M) : WhN H0 T Pv m σ H := ⟨n, M, hn, h, B.arr⟩
theorem s_while {c : TT} (Pv : Nat → L2.St → List Cell → Prop) (m0 : Nat) (B : Own H0 H T L) (start : Pv m0 σ L)
    (turn : ∀ m σ L H, Pv m σ L → Own H0 H T L → c σ H fun b H1 => if b = true then WhB H0 T Pv m tb D σ H1 else D.nx σ H1) : tWhile c tb D σ H := by
  refine ⟨fun m σ H => ∃ L, Pv m σ L ∧ Own H0 H T L, ⟨m0, L, start, B⟩, ?_⟩
  rintro m σ H ⟨L, h, B⟩
  exact turn m σ L H h B
/-! the queues that are not empty -/
def full (qs : List Addr) (fam : List (List Int)) : List Addr := ((qs.zip fam).filter fun z => !z.2.isEmpty).map (·.1)
def heads (fam : List (List Int)) : List Int := (fam.filter fun q => !q.isEmpty).map hd
theorem full_snoc {q : Addr} {f : List Int} {i : Nat} (h1 : qs[i]? = some q) (h2 : fam[i]? = some f) : full (qs.take (i + 1)) (fam.take (i + 1)) = full (qs.take i) (fam.take i) ++ (if f.isEmpty then [] else [q]) := by
  have hl1 : i < qs.length := (List.getElem?_eq_some_iff.mp h1).1
  have hl2 : i < fam.length := (List.getElem?_eq_some_iff.mp h2).1
  unfold full
  rw [List.take_add_one, List.take_add_one, h1, h2]
  have e : (qs.take i ++ (some q).toList).zip (fam.take i ++ (some f).toList) = (qs.take i).zip (fam.take i) ++ [(q, f)] := by
    rw [List.zip_append (by rw [List.length_take, List.length_take]; omega)]; rfl
  rw [e, List.filter_append, List.map_append]
  congr 1
  cases f <;> rfl
theorem heads_snoc {f : List Int} {i : Nat} (h2 : fam[i]? = some f) : heads (fam.take (i + 1)) = heads (fam.take i) ++ (if f.isEmpty then [] else [hd f]) := by
  unfold heads
  rw [List.take_add_one, h2, List.filter_append, List.map_append]
  congr 1
  cases f <;> rfl
theorem full_len : (full qs fam).length ≤ qs.length := by
  unfold full
  rw [List.length_map]
  refine Nat.le_trans (List.length_filter_le ..) ?_
  rw [List.length_zip]
  omega
theorem heads_len : (heads fam).length ≤ fam.length := by
  unfold heads
  rw [List.length_map]
  exact List.length_filter_le ..
theorem full_mem (hl : qs.length = fam.length) {q : Addr} (h : q ∈ full qs fam) : ∃ (i : Nat) (f : List Int), qs[i]? = some q ∧ fam[i]? = some f ∧ f ≠ [] := by
  obtain ⟨z, hz, rfl⟩ := List.mem_map.mp h
  obtain ⟨h1, h2⟩ := List.mem_filter.mp hz
  obtain ⟨i, hi⟩ := List.mem_iff_getElem?.mp h1
  have h3 := List.getElem?_zip_eq_some.mp hi
  exact ⟨i, z.2, h3.1, h3.2, fun e => by rw [e] at h2; cases h2⟩
theorem full_nil (hl : qs.length = fam.length) (h : full qs fam = []) : ∀ f ∈ fam, f = [] := by
  intro f hf
  obtain ⟨i, hi⟩ := List.mem_iff_getElem?.mp hf
  have hl2 : i < qs.length := by rw [hl]; exact (List.getElem?_eq_some_iff.mp hi).1
  have hz : (qs[i], f) ∈ qs.zip fam := List.mem_iff_getElem?.mpr ⟨i, List.getElem?_zip_eq_some.mpr ⟨List.getElem?_eq_getElem hl2, hi⟩⟩
  unfold full at h
  have h2 := List.map_eq_nil_iff.mp h
  have h3 := List.filter_eq_nil_iff.mp h2 _ hz
  cases f with
  | nil => rfl
  | cons x r => exact absurd rfl h3
theorem heads_mem {h : Int} : h ∈ heads fam ↔ ∃ f ∈ fam, f ≠ [] ∧ hd f = h := by
  unfold heads
  rw [List.mem_map]
  constructor
  · rintro ⟨f, hf, e⟩
    obtain ⟨h1, h2⟩ := List.mem_filter.mp hf
    exact ⟨f, h1, (fun z => by rw [z] at h2; cases h2), e⟩
  · rintro ⟨f, h1, h2, e⟩
    exact ⟨f, List.mem_filter.mpr ⟨h1, by cases f with | nil => exact absurd rfl h2 | cons => rfl⟩, e⟩
/-- the question queue != [] of a queue of ints -/
theorem s_neE {Q : Bool → Hp → Prop} {f : List Int} (B : Own H0 H T L) (h : H q = some (.lst (f.map V.int))) (hv : σ[kx]? = some (some (.ref q))) (k : ∀ H', Own H0 H' T L → Same H H' → Q (!f.isEmpty) H') :
    tTest (tOp (rNeD K) (tVar kx) (tLst tNil)) σ H Q := by
  refine ⟨_, hv, ⟨Nat.zero_le _, fun t nt => ?_⟩⟩
  refine ⟨dI f, .list [], dpI (SqL.of (by rw [upd_ne (ne_of_none h nt)]; exact h)), .lst (SqL.of upd_same) .nil, shaped_I _, shaped_I [], ?_⟩
  refine ⟨_, rfl, ?_⟩
  have e : PyData.eqv (dI f) (.list []) = f.isEmpty := by
    unfold dI
    rw [eqv_empty]
    cases f <;> rfl
  rw [e]
  exact k _ (B.new (o := .lst []) nt trivial).tail (sameN nt)
theorem Same.get {q : Addr} {o : HO} (s : Same H H') (h : H q = some o) : H' q = some o := s _ _ h
theorem s_lcFull (B : Own H0 H T L) [P : Pull L p (.fm p qs (vv fam)) L'] (hsm : fam.length ≤ 1000) (wp : ∀ x : V, wipe ((wipe σ vs).set kx (some x)) vs = wipe σ vs) (wg : ∀ x : V, ((wipe σ vs).set kx (some x))[kx]? = some (some x))
    (last : ∀ D H, Own H0 H T (.ob D (.lst ((full qs fam).map V.ref)) :: L) → Q (.ref D) H) : LcG (Itl K p) (gName kx) (tTest (tOp (rNeD K) (tVar kx) (tLst tNil))) (tVar kx) vs σ Q H := by
  have hl := B.lenF p
  refine s_lcL (fun i acc M => acc = (full (qs.take i) (fam.take i)).map V.ref ∧ M = L) (qs.map V.ref) B ⟨rfl, rfl⟩ ?_ wp ?_ ?_
  · rintro i acc M H ⟨_, rfl⟩ B
    exact SqL.of (B.getF p)
  · rintro Dc i x acc M H hx ⟨rfl, rfl⟩ B
    rw [List.getElem?_map] at hx
    obtain ⟨q, hq, rfl⟩ := Option.map_eq_some_iff.mp hx
    obtain ⟨f, ef, hf⟩ := B.tail.rowOf p hq
    refine s_neE B hf (wg _) fun H' B' _ => ?_
    have sn := full_snoc hq ef
    cases f with
    | nil => exact iteF (NoEl.mk B' ⟨by rw [sn]; simp, rfl⟩)
    | cons z r =>
      refine iteT (s_var (wg _) (s_el B' ?_ ⟨?_, rfl⟩))
      · rw [List.length_map]
        have := full_len (qs := qs.take i) (fam := fam.take i)
        rw [List.length_take] at this
        unfold sizeLine
        omega
      · rw [sn, List.map_append]; rfl
  · rintro Dc acc M H ⟨rfl, rfl⟩ B
    rw [List.length_map, List.take_length, hl, List.take_length] at B
    exact last Dc H B
theorem s_lcHeads (B : Own H0 H T L) [P : Pull L p (.fm p qs (vv fam)) L'] (hsm : fam.length ≤ 1000) (wp : ∀ x : V, wipe ((wipe σ vs).set kx (some x)) vs = wipe σ vs) (wg : ∀ x : V, ((wipe σ vs).set kx (some x))[kx]? = some (some x))
    (last : ∀ D H, Own H0 H T (.ob D (.lst ((heads fam).map V.int)) :: L) → Q (.ref D) H) : LcG (Itl K p) (gName kx) (tTest (tOp (rNeD K) (tVar kx) (tLst tNil))) (tOp (rIxL K) (tVar kx) (tC (.int 0))) vs σ Q H := by
  have hl := B.lenF p
  refine s_lcL (fun i acc M => acc = (heads (fam.take i)).map V.int ∧ M = L) (qs.map V.ref) B ⟨rfl, rfl⟩ ?_ wp ?_ ?_
  · rintro i acc M H ⟨_, rfl⟩ B
    exact SqL.of (B.getF p)
  · rintro Dc i x acc M H hx ⟨rfl, rfl⟩ B
    rw [List.getElem?_map] at hx
    obtain ⟨q, hq, rfl⟩ := Option.map_eq_some_iff.mp hx
    obtain ⟨f, ef, hf⟩ := B.tail.rowOf p hq
    refine s_neE B hf (wg _) fun H' B' sm => ?_
    have sn := heads_snoc ef
    cases f with
    | nil => exact iteF (NoEl.mk B' ⟨by rw [sn]; simp, rfl⟩)
    | cons z r =>
      refine iteT (s_op (s_var (wg _) (s_C (s_ixS (SqL.of (sm _ _ hf)) (i := 0) (v := .int z) (by exact atI_nat (j := 0) rfl) (s_el B' ?_ ⟨?_, rfl⟩)))))
      · rw [List.length_map]
        have := heads_len (fam := fam.take i)
        rw [List.length_take] at this
        unfold sizeLine
        omega
      · rw [sn, List.map_append]; rfl
  · rintro Dc acc M H ⟨rfl, rfl⟩ B
    rw [List.length_map, hl, List.take_length] at B
    exact last Dc H B
end
end My
namespace My
open PySem PySem.Spec PyProof.Rows L2 LamX
section
variable {K : PySem.W.Frag} {H0 H H' : Hp} {T : List (Addr × Str)} {L L' L1 : List Cell} {a p l q : Addr} {xs ys : List V} {qs zs : List Addr} {fam : List (List Int)} {f ns : List Int} {σ : L2.St} {Q : VK} {Qb : Bool → Hp → Prop} {D : Ends} {n m : Nat} {Pv : L2.St → List Cell → Prop} {M : List Cell} {rt : VK} {bk ct : L2.St → Hp → Prop}
theorem s_inn (B : Own H0 H T L) [A : Arr L M] (h : Pv σ M) : Ends.nx ⟨Inn H0 T Pv, rt, bk, ct⟩ σ H := Inn.mk B h
theorem s_whn {Pv : Nat → L2.St → List Cell → Prop} (B : Own H0 H T L) [A : Arr L M] (n : Nat) (hn : n < m) (h : Pv n σ M) : Ends.nx ⟨WhN H0 T Pv m, rt, bk, ct⟩ σ H := WhN.mk B n hn h
theorem s_min (B : Own H0 H T L) [P : Pull L a (.ob a (.lst (ns.map V.int))) L'] (h : ns ≠ []) (k : ∀ m, m ∈ ns → (∀ y ∈ ns, m ≤ y) → Q (.int m) H) : rMin K [.ref a] H Q :=
  ⟨a, ns, rfl, SqL.of (B.get a), List.length_pos_iff.mpr h, k⟩
theorem s_max (B : Own H0 H T L) [P : Pull L a (.ob a (.lst (ns.map V.int))) L'] (h : ns ≠ []) (k : ∀ m, m ∈ ns → (∀ y ∈ ns, y ≤ m) → Q (.int m) H) : rMax K [.ref a] H Q :=
  ⟨a, ns, rfl, SqL.of (B.get a), List.length_pos_iff.mpr h, k⟩
theorem dpAll_refs : ∀ {zs : List Addr}, (∀ z ∈ zs, ∃ f : List Int, H z = some (.lst (f.map V.int))) → ∃ fs : List (List Int), fs.length = zs.length ∧ DpAll K H (zs.map V.ref) (fs.map dI)
  | [], _ => ⟨[], rfl, .nil⟩
  | z :: zs, h => by
    obtain ⟨f, hf⟩ := h z (List.mem_cons_self ..)
    obtain ⟨fs, e, d⟩ := dpAll_refs (zs := zs) fun y hy => h y (List.mem_cons_of_mem _ hy)
    exact ⟨f :: fs, by simp [e], .cons (dpI (SqL.of hf)) d⟩
theorem layR : ∀ bs : List (List Int), PyData.canLayAll0 (bs.map dI) = true
  | [] => by simp [PyData.canLayAll0]
  | b :: bs => by
    have h1 := layR bs
    have h2 : (dI b).canLay0 = true := by unfold dI; simp only [PyData.canLay0]; exact lay_ints b
    rw [List.map_cons]
    simp only [PyData.canLayAll0, h1, h2, Bool.and_true]
theorem shapedR (bs : List (List Int)) : SeqAt.shaped (dR bs) = true := by
  have h1 := dR_depth bs
  have h2 := layR bs
  show ((dR bs).canLay0 && decide ((dR bs).depth ≤ 64)) = true
  have h3 : (dR bs).canLay0 = true := by unfold dR; simp only [PyData.canLay0]; exact h2
  rw [h3, decide_eq_true (by omega)]; rfl
/-- a queue of ints against the empty list -/
theorem s_neQ (B : Own H0 H T L) [P2 : Pull L l (.ob l (.lst [])) L1] (h : H a = some (.lst (f.map V.int))) (k : Q (.bl (!f.isEmpty)) H) : rNeD K (.ref a) (.ref l) H Q := by
  refine ⟨dI f, .list [], dpI (SqL.of h), .lst (SqL.of (B.get l)) .nil, shaped_I _, shaped_I [], ?_⟩
  have e : PyData.eqv (dI f) (.list []) = f.isEmpty := by
    unfold dI
    rw [eqv_empty]
    cases f <;> rfl
  rw [e]
  exact k
theorem s_eqQ (B : Own H0 H T L) [P2 : Pull L l (.ob l (.lst [])) L1] (h : H a = some (.lst (f.map V.int))) (k : Q (.bl f.isEmpty) H) : rEqD K (.ref a) (.ref l) H Q := by
  refine ⟨dI f, .list [], dpI (SqL.of h), .lst (SqL.of (B.get l)) .nil, shaped_I _, shaped_I [], ?_⟩
  have e : PyData.eqv (dI f) (.list []) = f.isEmpty := by
    unfold dI
    rw [eqv_empty]
    cases f <;> rfl
  rw [e]
  exact k
/-- a list of queues against the empty list -/
theorem s_neF (B : Own H0 H T L) [P1 : Pull L a (.ob a (.lst (zs.map V.ref))) L'] [P2 : Pull L l (.ob l (.lst [])) L1] (h : ∀ z ∈ zs, ∃ f : List Int, H z = some (.lst (f.map V.int))) (k : Q (.bl (!zs.isEmpty)) H) : rNeD K (.ref a) (.ref l) H Q := by
  obtain ⟨fs, e, d⟩ := dpAll_refs (K := K) h
  refine ⟨dR fs, .list [], .lst (SqL.of (B.get a)) d, .lst (SqL.of (B.get l)) .nil, shapedR fs, shaped_I [], ?_⟩
  have e2 : PyData.eqv (dR fs) (.list []) = zs.isEmpty := by
    unfold dR
    rw [eqv_empty]
    cases fs with
    | nil => cases zs with
      | nil => rfl
      | cons => cases e
    | cons => cases zs with
      | nil => cases e
      | cons => rfl
  rw [e2]
  exact k
theorem split_at {α : Type} {l : List α} {j : Nat} {x : α} (h : l[j]? = some x) : l = l.take j ++ x :: l.drop (j + 1) := by
  have e := (List.getElem?_eq_some_iff.mp h).2
  have hl := (List.getElem?_eq_some_iff.mp h).1
  rw [← e]; simp
theorem set_at {α : Type} {l : List α} {j : Nat} {x y : α} (h : l[j]? = some x) : l.set j y = l.take j ++ y :: l.drop (j + 1) := by
  have hl := (List.getElem?_eq_some_iff.mp h).1
  rw [List.set_eq_take_append_cons_drop, if_pos hl]
/-- the least head passes -/
theorem mrg_take {fam : List (List Int)} {j : Nat} {h : Int} {t : List Int} (nd : fam.flatten.Nodup) (e : fam[j]? = some (h :: t)) (least : ∀ x ∈ heads fam, h ≤ x) : mrg fam = h :: mrg (fam.set j t) := by
  have e1 := split_at e
  rw [set_at e]
  have nd2 := nd
  rw [e1] at nd2
  conv => lhs; rw [e1]
  refine mrg_step nd2 fun q hq ne => ?_
  have hm : q ∈ fam := by
    rw [e1]
    rcases hq with h1 | h1
    · exact List.mem_append_left _ h1
    · exact List.mem_append_right _ (List.mem_cons_of_mem _ h1)
  have h1 := least (hd q) (heads_mem.mpr ⟨q, hm, ne, rfl⟩)
  have h2 : hd q ≠ h := fun z => by
    have hin : h ∈ q := z ▸ hd_mem ne
    rw [List.flatten_append, List.flatten_cons] at nd2
    rcases hq with h1 | h1
    · exact (List.nodup_append.mp nd2).2.2 h (List.mem_flatten.mpr ⟨q, h1, hin⟩) h (List.mem_append_left _ (List.mem_cons_self ..)) rfl
    · exact (List.nodup_append.mp (List.nodup_append.mp nd2).2.1).2.2 h (List.mem_cons_self ..) h (List.mem_flatten.mpr ⟨q, h1, hin⟩) rfl
  omega
theorem set_tail_perm {fam : List (List Int)} {j : Nat} {h : Int} {t : List Int} (e : fam[j]? = some (h :: t)) : (h :: (fam.set j t).flatten).Perm fam.flatten := by
  conv => rhs; rw [split_at e]
  rw [set_at e, List.flatten_append, List.flatten_append, List.flatten_cons, List.flatten_cons]
  exact (List.perm_middle (a := h) (l₁ := (fam.take j).flatten)).symm
end
end My
namespace My
open PySem PySem.Spec PyProof.Rows L2 LamX
section
variable {K : PySem.W.Frag} {H0 H H' : Hp} {T : List (Addr × Str)} {L L' : List Cell} {a p : Addr} {qs : List Addr} {fam : List (List Int)} {f ns : List Int} {σ : L2.St} {Q : VK} {n kx : Nat} {vs : List Nat} {xs : List V}
/-- [[] for k in range(n)] -/
theorem s_lcEmpty (B : Own H0 H T L) (hn : n ≤ 100000) (wp : ∀ x : V, wipe ((wipe σ vs).set kx (some x)) vs = wipe σ vs) (last : ∀ p qs H, qs.length = n → Own H0 H T (.fm p qs (vv (List.replicate n [])) :: L) → Q (.ref p) H) :
    LcG (Itr 0 n) (gName kx) tYes (tLst tNil) vs σ Q H := by
  refine s_lcR (fun i acc M => ∃ qs : List Addr, qs.length = i ∧ acc = qs.map V.ref ∧ M = .rs qs (vv (List.replicate i [])) :: L) (Own.rs0 B) ⟨[], rfl, rfl, rfl⟩ wp ?_ ?_
  · rintro Dc i acc M H hi ⟨qs, hq, rfl, rfl⟩ B
    refine s_yes (iteT (s_lst (s_nil (s_newL B (Nat.zero_le _) fun l H B => ?_))))
    have B2 : Own H0 H T (.rs (qs ++ [l]) (vv (List.replicate i []) ++ [[]]) :: .ob Dc (.lst (qs.map V.ref)) :: L) := Own.pushR B.arr
    have e2 : vv (List.replicate i []) ++ [[]] = vv (List.replicate (i + 1) []) := by rw [List.replicate_succ']; simp
    rw [e2] at B2
    refine s_el B2 ?_ ⟨qs ++ [l], by rw [List.length_append, hq]; rfl, by rw [List.map_append]; rfl, rfl⟩
    rw [List.length_map, hq]; unfold sizeLine; omega
  · rintro p acc M H ⟨qs, hq, rfl, rfl⟩ B
    exact last p qs H hq B.closeR
/-- [[] for x in xs] -/
theorem s_lcEmptyL (B : Own H0 H T L) (hn : xs.length ≤ 100000) (stays : ∀ H, Own H0 H T L → SqL K H a xs) (wp : ∀ x : V, wipe ((wipe σ vs).set kx (some x)) vs = wipe σ vs) (last : ∀ p qs H, qs.length = xs.length → Own H0 H T (.fm p qs (vv (List.replicate xs.length [])) :: L) → Q (.ref p) H) :
    LcG (Itl K a) (gName kx) tYes (tLst tNil) vs σ Q H := by
  refine s_lcL (fun i acc M => ∃ qs : List Addr, qs.length = i ∧ acc = qs.map V.ref ∧ M = .rs qs (vv (List.replicate i [])) :: L) xs (Own.rs0 B) ⟨[], rfl, rfl, rfl⟩ ?_ wp ?_ ?_
  · rintro i acc M H ⟨qs, _, _, rfl⟩ B
    exact stays H B.tail
  · rintro Dc i x acc M H hx ⟨qs, hq, rfl, rfl⟩ B
    have hi := (List.getElem?_eq_some_iff.mp hx).1
    refine s_yes (iteT (s_lst (s_nil (s_newL B (Nat.zero_le _) fun l H B => ?_))))
    have B2 : Own H0 H T (.rs (qs ++ [l]) (vv (List.replicate i []) ++ [[]]) :: .ob Dc (.lst (qs.map V.ref)) :: L) := Own.pushR B.arr
    have e2 : vv (List.replicate i []) ++ [[]] = vv (List.replicate (i + 1) []) := by rw [List.replicate_succ']; simp
    rw [e2] at B2
    refine s_el B2 ?_ ⟨qs ++ [l], by rw [List.length_append, hq]; rfl, by rw [List.map_append]; rfl, rfl⟩
    rw [List.length_map, hq]; unfold sizeLine; omega
  · rintro p acc M H ⟨qs, hq, rfl, rfl⟩ B
    exact last p qs H hq B.closeR
/-- a copy of a family: [list(queue) for queue in family] -/
theorem s_lcCopy (B : Own H0 H T L) [P : Pull L p (.fm p qs (vv fam)) L'] (hn : fam.length ≤ 100000) (wp : ∀ x : V, wipe ((wipe σ vs).set kx (some x)) vs = wipe σ vs) (wg : ∀ x : V, ((wipe σ vs).set kx (some x))[kx]? = some (some x))
    (last : ∀ c ls H, ls.length = fam.length → Own H0 H T (.fm c ls (vv fam) :: L) → Q (.ref c) H) :
    LcG (Itl K p) (gName kx) tYes (tCB (rLsK K) (tCons (tVar kx) tNil)) vs σ Q H := by
  have hl := B.lenF p
  refine s_lcL (fun i acc M => ∃ ls : List Addr, ls.length = i ∧ acc = ls.map V.ref ∧ M = .rs ls (vv (fam.take i)) :: L) (qs.map V.ref) (Own.rs0 B) ⟨[], rfl, rfl, rfl⟩ ?_ wp ?_ ?_
  · rintro i acc M H ⟨ls, _, _, rfl⟩ B
    exact SqL.of (B.getF p)
  · rintro Dc i x acc M H hx ⟨ls, hls, rfl, rfl⟩ B
    rw [List.getElem?_map] at hx
    obtain ⟨qq, hq, rfl⟩ := Option.map_eq_some_iff.mp hx
    obtain ⟨f1, ef, hf⟩ := B.rowOf p hq
    have hi : i < fam.length := (List.getElem?_eq_some_iff.mp ef).1
    refine s_yes (iteT (s_cb (s_cons (s_var (wg _) (s_nil (s_list B hf fun l H B => ?_))))))
    have B2 : Own H0 H T (.rs (ls ++ [l]) (vv (fam.take i) ++ [f1.map V.int]) :: .ob Dc (.lst (ls.map V.ref)) :: L) := Own.pushR B.arr
    have e2 : vv (fam.take i) ++ [f1.map V.int] = vv (fam.take (i + 1)) := by rw [List.take_add_one, ef, vv_app]; rfl
    rw [e2] at B2
    refine s_el B2 ?_ ⟨ls ++ [l], by rw [List.length_append, hls]; rfl, by rw [List.map_append]; rfl, rfl⟩
    rw [List.length_map, hls]; unfold sizeLine; omega
  · rintro c acc M H ⟨ls, hls, rfl, rfl⟩ B
    have B := B.closeR
    rw [List.length_map, hl, List.take_length] at B
    exact last c ls H (by rw [hls, List.length_map, hl]) B
end
end My
namespace My
open PySem PySem.Spec PyProof.Rows L2 LamX
section
variable {K : PySem.W.Frag} {H0 H H' : Hp} {T : List (Addr × Str)} {L L' : List Cell} {a p : Addr} {qs : List Addr} {fam : List (List Int)} {f ns : List Int} {σ : L2.St} {Q : VK} {n kx : Nat} {vs : List Nat} {xs : List V} {x i j : Int} {D : Ends} {te ta tb tc : TE} {r r' : R2} {b : Bool}
theorem inV_I (x : Int) (ns : List Int) : inV (.int x) (ns.map V.int) = decide (x ∈ ns) := by
  unfold inV
  rw [List.any_map]
  by_cases h : x ∈ ns
  · rw [decide_eq_true h]
    exact List.any_eq_true.mpr ⟨x, h, by simp [eqV]⟩
  · rw [decide_eq_false h]
    refine List.any_eq_false.mpr fun y hy => ?_
    have ne : y ≠ x := fun e => h (e ▸ hy)
    simp [eqV, ne]
theorem flat_I (ns : List Int) : (ns.map V.int).all flatV = true := by
  rw [List.all_map]
  exact List.all_eq_true.mpr fun x _ => rfl
theorem idxOf_le {x : Int} : ∀ {l : List Int} {m : Nat}, l[m]? = some x → l.idxOf x ≤ m
  | [], m, h => by simp at h
  | y :: l, 0, h => by
    have e : y = x := Option.some.inj h
    rw [List.idxOf_cons, e]; simp
  | y :: l, m + 1, h => by
    rw [List.idxOf_cons]
    have := idxOf_le (l := l) (m := m) h
    cases (y == x) <;> simp <;> omega
theorem s_inI (h : H a = some (.lst (ns.map V.int))) (k : Q (.bl (decide (x ∈ ns))) H) : rIn K false (.int x) (.ref a) H Q :=
  ⟨a, _, rfl, .inl (SqL.of h), rfl, flat_I _, by rw [inV_I]; exact k⟩
theorem s_ninI (h : H a = some (.lst (ns.map V.int))) (k : Q (.bl (!decide (x ∈ ns))) H) : rIn K true (.int x) (.ref a) H Q :=
  ⟨a, _, rfl, .inl (SqL.of h), rfl, flat_I _, by rw [inV_I]; exact k⟩
theorem s_indexI (h : H a = some (.lst (ns.map V.int))) (hx : x ∈ ns) (k : Q (.int ((ns.idxOf x : Nat) : Int)) H) : rIndex K (.ref a) [.int x] H Q := by
  have hl : ns.idxOf x < ns.length := List.idxOf_lt_length_iff.mpr hx
  refine ⟨a, _, .int x, ns.idxOf x, .int x, rfl, rfl, SqL.of h, rfl, flat_I _, ?_, by simp [eqV], ?_, k⟩
  · rw [List.getElem?_map, List.getElem?_eq_getElem hl, List.getElem_idxOf]; rfl
  · intro m z' hm hz
    rw [List.getElem?_map] at hz
    obtain ⟨y, hy, rfl⟩ := Option.map_eq_some_iff.mp hz
    have hml : m < ns.length := by omega
    have e : ns[m] = y := by rw [List.getElem?_eq_getElem hml] at hy; exact Option.some.inj hy
    have ne : y ≠ x := fun z => by
      have h1 : ns.idxOf x ≤ m := by
        rw [← z]
        exact idxOf_le hy
      omega
    simp [eqV, ne]
theorem s_chain (k : ta σ H fun x H1 => tb σ H1 fun y H2 => r x y H2 fun z H3 => ∃ k, z = .bl k ∧ (if k = true then tc σ H3 fun w' H4 => r' y w' H4 Q else Q (.bl false) H3)) : tChain r r' ta tb tc σ H Q := k
def AugAt (i : Nat) (ti : TIp) (D : Ends) (σ : L2.St) (x y : V) (H : Hp) : Prop := ti x y H fun z H2 => D.nx (σ.set i (some z)) H2
theorem s_aug {i : Nat} {ti : TIp} {v : V} (h : σ[i]? = some (some v)) (k : te σ H fun y H1 => AugAt i ti D σ v y H1) : tAug i te ti D σ H := ⟨v, h, k⟩
theorem s_ip {i0 : Nat} {g : Int → Int → Int} (k : D.nx (σ.set i0 (some (.int (g i j)))) H) : AugAt i0 (ipI g) D σ (.int i) (.int j) H := ⟨i, j, rfl, rfl, k⟩
/-! what stands and is read alone -/
theorem s_lenH (h : H a = some (.lst xs)) (k : Q (.int (xs.length : Int)) H) : rLenK K [.ref a] H Q := ⟨a, xs, rfl, .inl (SqL.of h), k⟩
theorem s_ixH (h : H a = some (.lst xs)) (e : xs[n]? = some v) (k : Q v H) : rIxL K (.ref a) (.int (n : Int)) H Q := ⟨a, xs, _, v, rfl, rfl, SqL.of h, atI_nat e, k⟩
end
end My
namespace My
open PySem PySem.Spec PyProof.Rows L2 LamX
theorem cdivw {i j : Int} (h : 0 < j) (h2 : j.natAbs.log2 < 9000) : CDivW i j := ⟨h, h2⟩
theorem rgC_pos {len c : Nat} (hc : 1 ≤ c) (hc2 : c ≤ 100000) (hl : len ≤ 100000) : RgC 0 (len : Int) (c : Int) ((len + c - 1) / c) := by
  have e : Builtin.Range.rangeSize 0 (len : Int) (c : Int) = (((len + c - 1) / c : Nat) : Int) := by
    rw [PyProof.Rows.rangeSize_pos (by omega) (by omega)]
    have e1 : (len : Int) + (c : Int) - 1 = ((len + c - 1 : Nat) : Int) := by omega
    rw [e1]; rfl
  have hn : (len + c - 1) / c ≤ len + c := Nat.le_trans (Nat.div_le_self _ _) (by omega)
  refine ⟨by omega, by omega, ?_, e⟩
  unfold Builtin.Range.small
  rw [e]
  have e3 : (c : Int) > 0 := by omega
  have hb : ((len + c - 1) / c) * c ≤ len + c - 1 := Nat.div_mul_le_self _ _
  have hb2 : (((len + c - 1) / c : Nat) : Int) * (c : Int) ≤ 200000 := by
    have : ((((len + c - 1) / c) * c : Nat) : Int) ≤ 200000 := by omega
    rwa [Int.natCast_mul] at this
  simp only [Builtin.Range.rangeFitsLong, Bool.and_eq_true, Bool.or_eq_true, decide_eq_true_eq, beq_iff_eq, e3, if_true]
  clear e hb hb2
  generalize (len + c - 1) / c = N at hn ⊢
  refine ⟨⟨⟨⟨?_, ?_⟩, ?_, ?_⟩, ?_, ?_⟩, Or.inr ⟨?_, ?_⟩⟩ <;> omega
theorem rg_lt {len c i : Nat} (hc : 1 ≤ c) (h : i < (len + c - 1) / c) : i * c < len := by
  have h1 : (i + 1) * c ≤ (len + c - 1) / c * c := Nat.mul_le_mul_right _ (by omega)
  have h2 := Nat.div_mul_le_self (len + c - 1) c
  rw [Nat.add_mul] at h1
  omega
section
variable {K : PySem.W.Frag} {H0 H H' : Hp} {T : List (Addr × Str)} {L L' : List Cell} {a p : Addr} {qs : List Addr} {fam : List (List Int)} {f ns : List Int} {σ : L2.St} {Q : VK} {n kx : Nat} {xs : List V} {x i j c : Int} {D : Ends} {t : TA} {g : TG} {s : TS}
def ItR3 (vs : List V) (H : Hp) (R : It → Hp → Prop) : Prop := ∃ (i j c : Int) (n : Nat), vs = [.int i, .int j, .int c] ∧ RgC i j c n ∧ R (Itc i c n) H
theorem s_iRng3 {R : It → Hp → Prop} (k : t σ H fun vs H1 => ItR3 vs H1 R) : iRng3 t σ H R := k
theorem s_itR3 {R : It → Hp → Prop} (h : RgC i j c n) (k : R (Itc i c n) H) : ItR3 [.int i, .int j, .int c] H R := ⟨i, j, c, n, rfl, h, k⟩
theorem s_forC {lo c : Int} (Pv : Nat → L2.St → List Cell → Prop) (B : Own H0 H T L) (start : Pv 0 σ L)
    (turn : ∀ i σ L H, i < n → Pv i σ L → Own H0 H T L → g (.int (lo + (i : Int) * c)) σ H fun σ2 H2 => s { D with nx := Inn H0 T (Pv (i + 1)), ct := Inn H0 T (Pv (i + 1)), bk := D.nx } σ2 H2)
    (last : ∀ σ L H, Pv n σ L → Own H0 H T L → D.nx σ H) : ForG (Itc lo c n) g s D σ H :=
  for_rangeC (lo := lo) (c := c) (n := n) (fun i => Inn H0 T (Pv i)) ⟨L, start, B⟩ (fun i σ H hi ⟨L, h, B⟩ => turn i σ L H hi h B) (fun σ H ⟨L, h, B⟩ => last σ L H h B)
theorem s_neS {a b : Str} (k : Q (.bl (!decide (a = b))) H) : rNe (.str a) (.str b) H Q := ⟨rfl, by
  have e : decide (V.str a = V.str b) = decide (a = b) := by rw [Bool.eq_iff_iff]; simp
  rw [e]; exact k⟩
theorem s_eqS {a b : Str} (k : Q (.bl (decide (a = b))) H) : rEq (.str a) (.str b) H Q := ⟨rfl, by
  have e : decide (V.str a = V.str b) = decide (a = b) := by rw [Bool.eq_iff_iff]; simp
  rw [e]; exact k⟩
theorem s_repI (h : H a = some (.lst (ns.map V.int))) (hs : Sh ns) (hl : ns.length ≤ 4000) (k : Q (.str (dI ns).shown) H) : rRep K [.ref a] H Q := by
  obtain ⟨h1, h2, h3, h4⟩ := askI hs hl
  exact ⟨a, dI ns, rfl, dpI (SqL.of h), h1, h2, h3, h4, k⟩
theorem s_repR (B : Own H0 H T L) [P : Pull L p (.fm p qs (vv fam)) L'] (hs : ∀ b ∈ fam, Sh b ∧ b.length ≤ 300) (hl : fam.length ≤ 300) (k : Q (.str (dR fam).shown) H) : rRep K [.ref p] H Q := by
  obtain ⟨h1, h2, h3, h4⟩ := askR hs hl
  exact ⟨p, dR fam, rfl, dpR (B.getF p) (B.rowsF p), h1, h2, h3, h4, k⟩
/-- a value that is laid out, by what it holds -/
theorem s_repD {d : PyData} (h : Dp K H (.ref a) d) (h1 : d.showable = true) (h2 : d.hasDict = false) (h3 : d.shown.length ≤ sizeLine) (h4 : d.depth ≤ 60) (k : Q (.str d.shown) H) : rRep K [.ref a] H Q := ⟨a, d, rfl, h, h1, h2, h3, h4, k⟩
end
/-! defs that are called where no repr runs -/
structure CalG (P : Program) (w : World) (K : PySem.W.Frag) (mg : Str → Option Value) (base : Heap) (k : Nat) (nm : Str) (ps : List Str) (sp : Sp) : Prop where
  ex : ∃ (f : Addr) (fd : FuncData), FnG P w K mg base k f fd ps sp ∧ mg nm = some (.ref f) ∧ PySem.W.keepIn K (.ref f) = true ∧ Binds K fd ps []
theorem FnG.mono {P : Program} {w : World} {K : PySem.W.Frag} {mg : Str → Option Value} {base : Heap} {j k : Nat} {f : Addr} {fd : FuncData} {ps : List Str} {sp : Sp} (F : FnG P w K mg base j f fd ps sp) (h : j ≤ k) : FnG P w K mg base k f fd ps sp :=
  ⟨F.len, fun A outer s H args us vs Q E hr => F.run A outer s H args us vs Q E (hr.mono h)⟩
theorem CalG.mono {P : Program} {w : World} {K : PySem.W.Frag} {mg : Str → Option Value} {base : Heap} {j k : Nat} {nm : Str} {ps : List Str} {sp : Sp} (C : CalG P w K mg base j nm ps sp) (h : j ≤ k) : CalG P w K mg base k nm ps sp := by
  obtain ⟨f, fd, F, r⟩ := C.ex
  exact ⟨f, fd, F.mono h, r⟩
theorem pe_calG {X : Cx} {k : Nat} {nm : Str} {ps : List Str} {sp : Sp} {e : Expr} {es : List Expr} {p pos : Pos} {t : TA} (C : CalG X.prog X.w X.K X.mg X.base k nm ps sp) (room : Room k X.A) (gu : X.A.guards = some []) (gl : Gl X nm) (ha : PA X (e :: es) t)
    (hdb : (nm == ("__debug__" : Str)) = false := by decide) (he : starEach (e :: es) X.env = (false, eval e X.env) :: starEach es X.env := by rfl) (hpl : (backTo pos (starEach es X.env)).any (·.1) = false := by rfl) :
    PE X (.Call (.Name nm p) (e :: es) [] pos) (tCall sp [] E0 t) := by
  obtain ⟨f, fd, F, g, kp, b⟩ := C.ex
  exact pe_callG F room gu gl g kp b pass0 ha hdb he hpl
end My
namespace My
open PySem PySem.Spec PyProof.Rows L2 LamX
section
variable {K : PySem.W.Frag} {H0 H H' : Hp} {T : List (Addr × Str)} {L L' L1 : List Cell} {a b p l l2 : Addr} {xs ys : List V} {ns ms : List Int} {Q : VK}
theorem eqvA_I : ∀ ns ms : List Int, PyData.eqvAll (ns.map PyData.int) (ms.map PyData.int) = decide (ns = ms)
  | [], [] => by simp [PyData.eqvAll]
  | [], _ :: _ => by simp [PyData.eqvAll]
  | _ :: _, [] => by simp [PyData.eqvAll]
  | n :: ns, m :: ms => by
    have ih := eqvA_I ns ms
    rw [List.map_cons, List.map_cons]
    simp only [PyData.eqvAll, PyData.eqv, ih]
    rw [Bool.eq_iff_iff]
    simp
theorem eqv_II (ns ms : List Int) : PyData.eqv (dI ns) (dI ms) = decide (ns = ms) := by
  unfold dI
  simp only [PyData.eqv]
  exact eqvA_I ns ms
theorem s_eqDI (h1 : H a = some (.lst (ns.map V.int))) (h2 : H b = some (.lst (ms.map V.int))) (k : Q (.bl (decide (ns = ms))) H) : rEqD K (.ref a) (.ref b) H Q :=
  ⟨dI ns, dI ms, dpI (SqL.of h1), dpI (SqL.of h2), shaped_I _, shaped_I _, by rw [eqv_II]; exact k⟩
theorem s_neDI (h1 : H a = some (.lst (ns.map V.int))) (h2 : H b = some (.lst (ms.map V.int))) (k : Q (.bl (!decide (ns = ms))) H) : rNeD K (.ref a) (.ref b) H Q :=
  ⟨dI ns, dI ms, dpI (SqL.of h1), dpI (SqL.of h2), shaped_I _, shaped_I _, by rw [eqv_II]; exact k⟩
/-- a family of two that was just written -/
theorem Own.two (B : Own H0 H T (.ob p (.lst [.ref l, .ref l2]) :: .ob l2 (.lst ys) :: .ob l (.lst xs) :: L)) : Own H0 H T (.fm p [l, l2] [xs, ys] :: L) := by
  have B1 : Own H0 H T (.ob l (.lst xs) :: .rs [] [] :: .ob l2 (.lst ys) :: .ob p (.lst [.ref l, .ref l2]) :: L) := (Own.rs0 B).arr
  have B2 := B1.pushR
  have B3 : Own H0 H T (.ob l2 (.lst ys) :: .rs [l] [xs] :: .ob p (.lst [.ref l, .ref l2]) :: L) := (show Own H0 H T (.rs [l] [xs] :: .ob l2 (.lst ys) :: .ob p (.lst [.ref l, .ref l2]) :: L) from B2).arr
  have B4 := B3.pushR
  have B5 : Own H0 H T (.ob p (.lst ([l, l2].map V.ref)) :: .rs [l, l2] [xs, ys] :: L) := (show Own H0 H T (.rs [l, l2] [xs, ys] :: .ob p (.lst ([l, l2].map V.ref)) :: L) from B4).arr
  exact B5.closeR
theorem Own.one (B : Own H0 H T (.ob p (.lst [.ref l]) :: .ob l (.lst xs) :: L)) : Own H0 H T (.fm p [l] [xs] :: L) := by
  have B1 : Own H0 H T (.ob l (.lst xs) :: .rs [] [] :: .ob p (.lst [.ref l]) :: L) := (Own.rs0 B).arr
  have B2 := B1.pushR
  have B5 : Own H0 H T (.ob p (.lst ([l].map V.ref)) :: .rs [l] [xs] :: L) := (show Own H0 H T (.rs [l] [xs] :: .ob p (.lst ([l].map V.ref)) :: L) from B2).arr
  exact B5.closeR
end
end My
namespace My
open PySem PySem.Spec PyProof.Rows L2 LamX
theorem Cal.of {P : Program} {w : World} {K : PySem.W.Frag} {mg : Str → Option Value} {base : Heap} {k : Nat} {f : Addr} {fd : FuncData} {nm : Str} {ps : List Str} {sp : Sp} (F : FnOk P w K mg base CX0 k f fd ps sp) (g : mg nm = some (.ref f)) (kp : PySem.W.keepIn K (.ref f) = true) (b : Binds K fd ps []) : Cal P w K mg base k nm ps sp := ⟨f, fd, F, g, kp, b⟩
theorem CalG.of {P : Program} {w : World} {K : PySem.W.Frag} {mg : Str → Option Value} {base : Heap} {k : Nat} {f : Addr} {fd : FuncData} {nm : Str} {ps : List Str} {sp : Sp} (F : FnG P w K mg base k f fd ps sp) (g : mg nm = some (.ref f)) (kp : PySem.W.keepIn K (.ref f) = true) (b : Binds K fd ps []) : CalG P w K mg base k nm ps sp := ⟨f, fd, F, g, kp, b⟩
end My
namespace My
open PySem PySem.Spec PyProof.Rows L2 LamX
section
variable {K : PySem.W.Frag} {H0 H H' : Hp} {T : List (Addr × Str)} {L L' L1 : List Cell} {a b p l l2 : Addr} {xs ys : List V} {ns ms : List Int} {Q : VK} {σ : L2.St} {te : TE} {s : TS} {D : Ends} {tt : TT} {Qb : Bool → Hp → Prop}
/-- one way on for all ways of an expression -/
theorem s_key (P : V → Hp → Prop) (h : (∀ v H', P v H' → Q v H') → te σ H Q) (k : ∀ v H', P v H' → Q v H') : te σ H Q := h k
theorem s_keyS (P : L2.St → Hp → Prop) (h : (∀ σ' H', P σ' H' → D.nx σ' H') → s D σ H) (k : ∀ σ' H', P σ' H' → D.nx σ' H') : s D σ H := h k
theorem s_keyT (P : Bool → Hp → Prop) (h : (∀ v H', P v H' → Qb v H') → tt σ H Qb) (k : ∀ v H', P v H' → Qb v H') : tt σ H Qb := h k
theorem s_repB2 {b1 b2 : Bool} (h : H a = some (.lst [.bl b1, .bl b2])) (k : Q (.str (PyData.list [.bool b1, .bool b2]).shown) H) : rRep K [.ref a] H Q := by
  refine ⟨a, .list [.bool b1, .bool b2], rfl, .lst (SqL.of h) (.cons (.bl b1) (.cons (.bl b2) .nil)), ?_, ?_, ?_, ?_, k⟩
  · cases b1 <;> cases b2 <;> decide +kernel
  · cases b1 <;> cases b2 <;> decide +kernel
  · cases b1 <;> cases b2 <;> decide +kernel
  · cases b1 <;> cases b2 <;> decide +kernel
/-- data, three deep: a list of families or of lists -/
theorem depthAll_le {ds : List PyData} {m : Nat} (h : ∀ d ∈ ds, d.depth ≤ m) : PyData.depthAll ds ≤ m := by
  induction ds with
  | nil => simp [PyData.depthAll]
  | cons d ds ih =>
    have h1 := h d (List.mem_cons_self ..)
    have h2 := ih fun x hx => h x (List.mem_cons_of_mem _ hx)
    simp only [PyData.depthAll]
    omega
end
end My
namespace My
open PySem PySem.Spec PyProof.Rows L2 LamX
theorem lc_en {K : PySem.W.Frag} {a : Addr} {xs : List V} {g : TG} {tt : TT} {te : TE} {vs : List Nat} {sg : L2.St} {H1 : Hp} {D : Addr} {Qd : Hp → Prop} (Pv : Nat → Hp → Prop) (start : Pv 0 (upd H1 D (.lst [])))
    (stays : ∀ i H, i ≤ xs.length → Pv i H → SqL K H a xs)
    (turn : ∀ i x H T, xs[i]? = some x → Pv i H → H T = none → g (.ref T) (wipe sg vs) (upd H T (.tup [.int (i : Nat), x])) fun sg2 H2 => wipe sg2 vs = wipe sg vs ∧ tt sg2 H2 fun b H3 =>
      if b = true then te sg2 H3 fun y H4 => ∃ acc, H4 D = some (.lst acc) ∧ acc.length < sizeLine ∧ Pv (i + 1) (upd H4 D (.lst (acc ++ [y]))) else Pv (i + 1) H3)
    (last : ∀ H, Pv xs.length H → Qd H) :
    ∃ W : Nat → Nat → Hp → Prop, (∃ m, W 0 m (upd H1 D (.lst []))) ∧ ∀ i m H, W i m H →
      ((Ite K a).stop i H ∧ Qd H) ∨ ((Ite K a).go i H ∧ ∃ Nx : Hp → Prop, (∀ H', Nx H' → ∃ m', m' < m ∧ W (i + 1) m' H') ∧ ∀ x H', (Ite K a).yld i H x H' → g x (wipe sg vs) H' fun sg2 H2 => wipe sg2 vs = wipe sg vs ∧ tt sg2 H2 fun b H3 =>
        if b = true then te sg2 H3 fun y H4 => ∃ acc, H4 D = some (.lst acc) ∧ acc.length < sizeLine ∧ Nx (upd H4 D (.lst (acc ++ [y]))) else Nx H3) := by
  refine ⟨fun i m H => m = xs.length - i ∧ i ≤ xs.length ∧ Pv i H, ⟨xs.length, rfl, Nat.zero_le _, start⟩, ?_⟩
  rintro i m H ⟨em, le, p⟩
  have sq := stays i H le p
  rcases Nat.lt_or_ge i xs.length with lt | ge
  · have at1 : xs[i]? = some xs[i] := List.getElem?_eq_getElem lt
    refine Or.inr ⟨⟨xs, xs[i], sq, at1⟩, Pv (i + 1), ?_, ?_⟩
    · intro H' p'
      exact ⟨xs.length - (i + 1), by omega, rfl, lt, p'⟩
    · rintro x H' ⟨T, y, e1, nT, e2, f⟩
      have ey := f xs sq
      subst e1 e2
      exact turn i y H T ey p nT
  · have e : i = xs.length := by omega
    subst e
    exact Or.inl ⟨⟨xs, sq, Nat.le_refl _⟩, last H p⟩

/-! large ints, laid out -/
def Bg (ns : List Int) : Prop := ∀ x ∈ ns, x.natAbs < 2 ^ 1300
theorem bshow : ∀ ns : List Int, Bg ns → PyData.showableAll (ns.map PyData.int) = true
  | [], _ => by simp [PyData.showableAll]
  | n :: ns, h => by
    have h1 := h n (List.mem_cons_self ..)
    have h2 := bshow ns fun x hx => h x (List.mem_cons_of_mem _ hx)
    have z := PySem.Flt.log2_lt_of (show 0 < 1300 by decide) h1
    have h3 : n.natAbs.log2 < 1920 := by omega
    simp [PyData.showableAll, PyData.showable, h2, h3]
theorem big10 : (2 : Nat) ^ 1300 ≤ 10 ^ 400 := by decide +kernel
theorem bint_len {i : Int} (h : i.natAbs < 2 ^ 1300) : (PyData.int i).shown.length ≤ 401 := by
  have e := PySem.int_text_length_le10 (a := i) (k := 400) (by decide) (Nat.lt_of_lt_of_le h big10)
  rw [PyData.shown_int]
  show (Str.ofString (toString i)).length ≤ 401
  rw [PySem.ofString_length]
  exact e
theorem bsum : ∀ ns : List Int, Bg ns → ((PyData.shownAll (ns.map PyData.int)).map (·.length)).sum ≤ 401 * ns.length
  | [], _ => by simp [PyData.shownAll]
  | n :: ns, h => by
    have h1 := bint_len (h n (List.mem_cons_self ..))
    have h2 := bsum ns fun x hx => h x (List.mem_cons_of_mem _ hx)
    simp only [List.map_cons, PyData.shownAll, List.sum_cons, List.length_cons]
    omega
section
variable {K : PySem.W.Frag} {H0 H H' : Hp} {T : List (Addr × Str)} {L L' L1 : List Cell} {a p : Addr} {xs : List V} {ns : List Int} {qs : List Addr} {fam : List (List Int)} {Q : VK} {σ : L2.St} {vs : List Nat} {tt : TT} {te : TE} {k1 k2 : Nat}
theorem s_repB (h : H a = some (.lst (ns.map V.int))) (hs : Bg ns) (hl : ns.length ≤ 1000) (k : Q (.str (dI ns).shown) H) : rRep K [.ref a] H Q := by
  refine ⟨a, dI ns, rfl, dpI (SqL.of h), ?_, ?_, ?_, ?_, k⟩
  · unfold dI; simp only [PyData.showable]; exact bshow ns hs
  · unfold dI; simp only [PyData.hasDict]; exact nodict_I ns
  · have h1 := listText_len_le (PyData.shownAll (ns.map PyData.int))
    have h2 := bsum ns hs
    rw [PyData.shownAll_length, List.length_map] at h1
    unfold dI
    simp only [PyData.shown]
    unfold sizeLine
    omega
  · have := dI_depth ns; omega
/-- a comprehension over enumerate(xs) -/
theorem s_lcE (Pv : Nat → List V → List Cell → Prop) (xs : List V) (B : Own H0 H T L) (start : Pv 0 [] L) (stays : ∀ i acc L H, Pv i acc L → Own H0 H T L → SqL K H a xs)
    (wp : ∀ x y : V, wipe (((wipe σ vs).set k1 (some x)).set k2 (some y)) vs = wipe σ vs)
    (turn : ∀ D i x acc L H, xs[i]? = some x → Pv i acc L → Own H0 H T (.ob D (.lst acc) :: L) → tt (((wipe σ vs).set k1 (some (.int (i : Int)))).set k2 (some x)) H fun b H3 =>
      if b = true then te (((wipe σ vs).set k1 (some (.int (i : Int)))).set k2 (some x)) H3 fun y H4 => ∃ acc, H4 D = some (.lst acc) ∧ acc.length < sizeLine ∧ NoEl H0 T D (Pv (i + 1)) (upd H4 D (.lst (acc ++ [y]))) else NoEl H0 T D (Pv (i + 1)) H3)
    (last : ∀ D acc L H, Pv xs.length acc L → Own H0 H T (.ob D (.lst acc) :: L) → Q (.ref D) H) : LcG (Ite K a) (gTup K 2 (gCons (gName k1) (gCons (gName k2) gNil))) tt te vs σ Q H := fun D nD =>
  lc_en (K := K) (a := a) (xs := xs) (fun i => NoEl H0 T D (Pv i)) ⟨[], L, B.new nD trivial, start⟩ (fun i H _ ⟨acc, L, B, h⟩ => stays i acc L H h B.tail)
    (fun i x H tp hx ⟨acc, L, B, h⟩ n => ⟨tp, _, rfl, SqT.of upd_same, rfl, _, _, rfl, _, _, rfl, rfl, wp _ _, turn D i x acc L _ hx h (B.new (o := .tup [.int (i : Nat), x]) n trivial).tail⟩) (fun H ⟨acc, L, B, h⟩ => last D acc L H h B)
/-- [index for index, queue in enumerate(family) if x in queue] -/
theorem s_lcWhere {x : Int} {j0 : Nat} (B : Own H0 H T L) [P : Pull L p (.fm p qs (vv fam)) L'] (hsm : fam.length ≤ 1000) (hj0 : j0 < fam.length) (hx : ∀ j f, fam[j]? = some f → (x ∈ f ↔ j = j0))
    (wp : ∀ x y : V, wipe (((wipe σ vs).set k1 (some x)).set k2 (some y)) vs = wipe σ vs)
    (test : ∀ (D : Addr) (acc : List V) (j : Nat) (q : Addr) (f : List Int) (H : Hp) (Qb : Bool → Hp → Prop), fam[j]? = some f → H q = some (.lst (f.map V.int)) → Own H0 H T (.ob D (.lst acc) :: L) → (∀ H', Own H0 H' T (.ob D (.lst acc) :: L) → Qb (decide (x ∈ f)) H') →
      tt (((wipe σ vs).set k1 (some (.int (j : Int)))).set k2 (some (.ref q))) H Qb)
    (elem : ∀ (x y : V) (H : Hp) (Q : VK), Q x H → te (((wipe σ vs).set k1 (some x)).set k2 (some y)) H Q)
    (last : ∀ D H, Own H0 H T (.ob D (.lst [.int (j0 : Int)]) :: L) → Q (.ref D) H) : LcG (Ite K p) (gTup K 2 (gCons (gName k1) (gCons (gName k2) gNil))) tt te vs σ Q H := by
  have hl := B.lenF p
  refine s_lcE (fun i acc M => acc = (if j0 < i then [V.int (j0 : Int)] else []) ∧ M = L) (qs.map V.ref) B ⟨rfl, rfl⟩ ?_ wp ?_ ?_
  · rintro i acc M H ⟨_, rfl⟩ B
    exact SqL.of (B.getF p)
  · rintro D i v acc M H hv ⟨rfl, rfl⟩ B
    rw [List.getElem?_map] at hv
    obtain ⟨q, hq, rfl⟩ := Option.map_eq_some_iff.mp hv
    obtain ⟨f, ef, hf⟩ := B.tail.rowOf p hq
    refine test D _ i q f H _ ef hf B fun H B => ?_
    have hi := hx i f ef
    by_cases h : x ∈ f
    · rw [decide_eq_true h]
      have e : i = j0 := hi.mp h
      subst e
      refine iteT (elem _ _ _ _ (s_el B ?_ ⟨?_, rfl⟩))
      · split <;> (unfold sizeLine; simp)
      · rw [if_neg (Nat.lt_irrefl _), if_pos (Nat.lt_succ_self _)]; rfl
    · rw [decide_eq_false h]
      refine iteF (NoEl.mk B ⟨?_, rfl⟩)
      have e : i ≠ j0 := fun z => h (hi.mpr z)
      by_cases h2 : j0 < i
      · rw [if_pos h2, if_pos (by omega)]
      · rw [if_neg h2, if_neg (by omega)]
  · rintro D acc M H ⟨rfl, rfl⟩ B
    rw [List.length_map, if_pos (by omega)] at B
    exact last D H B
end
end My
namespace My
open PySem PySem.Spec PyProof.Rows L2 LamX
section
variable {K : PySem.W.Frag} {H0 H H' : Hp} {T : List (Addr × Str)} {L L' L1 : List Cell} {a p p2 : Addr} {qs qs2 : List Addr} {fam fam2 : List (List Int)} {Q : VK}
theorem eqvA_R : ∀ fs gs : List (List Int), PyData.eqvAll (fs.map dI) (gs.map dI) = decide (fs = gs)
  | [], [] => by simp [PyData.eqvAll]
  | [], _ :: _ => by simp [PyData.eqvAll]
  | _ :: _, [] => by simp [PyData.eqvAll]
  | f :: fs, g :: gs => by
    have ih := eqvA_R fs gs
    rw [List.map_cons, List.map_cons]
    simp only [PyData.eqvAll, eqv_II, ih]
    rw [Bool.eq_iff_iff]
    simp
theorem eqv_RR (fs gs : List (List Int)) : PyData.eqv (dR fs) (dR gs) = decide (fs = gs) := by
  unfold dR
  simp only [PyData.eqv]
  exact eqvA_R fs gs
theorem s_eqRR (B : Own H0 H T L) [P1 : Pull L p (.fm p qs (vv fam)) L'] [P2 : Pull L p2 (.fm p2 qs2 (vv fam2)) L1] (k : Q (.bl (decide (fam = fam2))) H) : rEqD K (.ref p) (.ref p2) H Q :=
  ⟨dR fam, dR fam2, dpR (B.getF p) (B.rowsF p), dpR (B.getF p2) (B.rowsF p2), shapedR _, shapedR _, by rw [eqv_RR]; exact k⟩
theorem s_neRR (B : Own H0 H T L) [P1 : Pull L p (.fm p qs (vv fam)) L'] [P2 : Pull L p2 (.fm p2 qs2 (vv fam2)) L1] (k : Q (.bl (!decide (fam = fam2))) H) : rNeD K (.ref p) (.ref p2) H Q :=
  ⟨dR fam, dR fam2, dpR (B.getF p) (B.rowsF p), dpR (B.getF p2) (B.rowsF p2), shapedR _, shapedR _, by rw [eqv_RR]; exact k⟩
theorem s_neB {b c : Bool} (k : Q (.bl (!decide (b = c))) H) : rNe (.bl b) (.bl c) H Q := ⟨rfl, by
  have e : decide (V.bl b = V.bl c) = decide (b = c) := by rw [Bool.eq_iff_iff]; simp
  rw [e]; exact k⟩
theorem s_eqB {b c : Bool} (k : Q (.bl (decide (b = c))) H) : rEq (.bl b) (.bl c) H Q := ⟨rfl, by
  have e : decide (V.bl b = V.bl c) = decide (b = c) := by rw [Bool.eq_iff_iff]; simp
  rw [e]; exact k⟩
end
end My
namespace My
open PySem PySem.Spec PyProof.Rows L2 LamX
/-! a comprehension over zip(xs, ys) -/
theorem lc_zp {K : PySem.W.Frag} {a b : Addr} {xs ys : List V} {g : TG} {tt : TT} {te : TE} {vs : List Nat} {sg : L2.St} {H1 : Hp} {D : Addr} {Qd : Hp → Prop} (hl : xs.length = ys.length) (Pv : Nat → Hp → Prop) (start : Pv 0 (upd H1 D (.lst [])))
    (stays : ∀ i H, i ≤ xs.length → Pv i H → SqL K H a xs ∧ SqL K H b ys)
    (turn : ∀ i x y H T, xs[i]? = some x → ys[i]? = some y → Pv i H → H T = none → g (.ref T) (wipe sg vs) (upd H T (.tup [x, y])) fun sg2 H2 => wipe sg2 vs = wipe sg vs ∧ tt sg2 H2 fun b H3 =>
      if b = true then te sg2 H3 fun y H4 => ∃ acc, H4 D = some (.lst acc) ∧ acc.length < sizeLine ∧ Pv (i + 1) (upd H4 D (.lst (acc ++ [y]))) else Pv (i + 1) H3)
    (last : ∀ H, Pv xs.length H → Qd H) :
    ∃ W : Nat → Nat → Hp → Prop, (∃ m, W 0 m (upd H1 D (.lst []))) ∧ ∀ i m H, W i m H →
      ((Itz K a b).stop i H ∧ Qd H) ∨ ((Itz K a b).go i H ∧ ∃ Nx : Hp → Prop, (∀ H', Nx H' → ∃ m', m' < m ∧ W (i + 1) m' H') ∧ ∀ x H', (Itz K a b).yld i H x H' → g x (wipe sg vs) H' fun sg2 H2 => wipe sg2 vs = wipe sg vs ∧ tt sg2 H2 fun b H3 =>
        if b = true then te sg2 H3 fun y H4 => ∃ acc, H4 D = some (.lst acc) ∧ acc.length < sizeLine ∧ Nx (upd H4 D (.lst (acc ++ [y]))) else Nx H3) := by
  refine ⟨fun i m H => m = xs.length - i ∧ i ≤ xs.length ∧ Pv i H, ⟨xs.length, rfl, Nat.zero_le _, start⟩, ?_⟩
  rintro i m H ⟨em, le, p⟩
  obtain ⟨s1, s2⟩ := stays i H le p
  rcases Nat.lt_or_ge i xs.length with lt | ge
  · have at1 : xs[i]? = some xs[i] := List.getElem?_eq_getElem lt
    have at2 : ys[i]? = some (ys[i]'(by omega)) := List.getElem?_eq_getElem (by omega)
    refine Or.inr ⟨⟨xs, ys, _, _, s1, s2, at1, at2⟩, Pv (i + 1), ?_, ?_⟩
    · intro H' p'
      exact ⟨xs.length - (i + 1), by omega, rfl, lt, p'⟩
    · rintro v H' ⟨T, x, y, e1, nT, e2, f1, f2⟩
      have ex := f1 xs s1
      have ey := f2 ys s2
      subst e1 e2
      exact turn i x y H T ex ey p nT
  · have e : i = xs.length := by omega
    subst e
    exact Or.inl ⟨⟨xs, ys, s1, s2, Or.inl (Nat.le_refl _)⟩, last H p⟩
section
variable {K : PySem.W.Frag} {H0 H H' : Hp} {T : List (Addr × Str)} {L L' L1 : List Cell} {a b p p2 : Addr} {xs ys : List V} {qs qs2 : List Addr} {fam fam2 : List (List Int)} {Q : VK} {σ : L2.St} {vs : List Nat} {tt : TT} {te : TE} {k1 k2 : Nat} {t : TA} {s : TS} {D : Ends}
def ItZ (K : PySem.W.Frag) (vs : List V) (H : Hp) (R : It → Hp → Prop) : Prop := ∃ a b xs ys, vs = [.ref a, .ref b] ∧ ((SqL K H a xs ∧ SqL K H b ys ∧ R (Itz K a b) H) ∨ (SqT K H a xs ∧ SqT K H b ys ∧ R (RZ.ItzT K a b) H))
theorem s_iZip {R : It → Hp → Prop} (k : t σ H fun vs H1 => ItZ K vs H1 R) : RZ.iZipA K t σ H R := k
theorem s_itZ {R : It → Hp → Prop} (h1 : SqL K H a xs) (h2 : SqL K H b ys) (k : R (Itz K a b) H) : ItZ K [.ref a, .ref b] H R := ⟨a, b, xs, ys, rfl, .inl ⟨h1, h2, k⟩⟩
theorem s_lcZ (Pv : Nat → List V → List Cell → Prop) (xs ys : List V) (hl : xs.length = ys.length) (B : Own H0 H T L) (start : Pv 0 [] L) (stays : ∀ i acc L H, Pv i acc L → Own H0 H T L → SqL K H a xs ∧ SqL K H b ys)
    (wp : ∀ x y : V, wipe (((wipe σ vs).set k1 (some x)).set k2 (some y)) vs = wipe σ vs)
    (turn : ∀ D i x y acc L H, xs[i]? = some x → ys[i]? = some y → Pv i acc L → Own H0 H T (.ob D (.lst acc) :: L) → tt (((wipe σ vs).set k1 (some x)).set k2 (some y)) H fun b H3 =>
      if b = true then te (((wipe σ vs).set k1 (some x)).set k2 (some y)) H3 fun y H4 => ∃ acc, H4 D = some (.lst acc) ∧ acc.length < sizeLine ∧ NoEl H0 T D (Pv (i + 1)) (upd H4 D (.lst (acc ++ [y]))) else NoEl H0 T D (Pv (i + 1)) H3)
    (last : ∀ D acc L H, Pv xs.length acc L → Own H0 H T (.ob D (.lst acc) :: L) → Q (.ref D) H) : LcG (Itz K a b) (gTup K 2 (gCons (gName k1) (gCons (gName k2) gNil))) tt te vs σ Q H := fun D nD =>
  lc_zp (K := K) (a := a) (b := b) (xs := xs) (ys := ys) hl (fun i => NoEl H0 T D (Pv i)) ⟨[], L, B.new nD trivial, start⟩ (fun i H _ ⟨acc, L, B, h⟩ => stays i acc L H h B.tail)
    (fun i x y H tp hx hy ⟨acc, L, B, h⟩ n => ⟨tp, _, rfl, SqT.of upd_same, rfl, _, _, rfl, _, _, rfl, rfl, wp _ _, turn D i x y acc L _ hx hy h (B.new (o := .tup [x, y]) n trivial).tail⟩) (fun H ⟨acc, L, B, h⟩ => last D acc L H h B)
/-! two families in a list -/
theorem dR_sum {bs : List (List Int)} (h : ∀ b ∈ bs, Sh b ∧ b.length ≤ 300) (hl : bs.length ≤ 300) : (dR bs).shown.length ≤ 3200000 := by
  have h1 := listText_len_le (PyData.shownAll (bs.map dI))
  have h2 := sumR 300 bs h
  have h3 : (35 * 300 + 3) * bs.length ≤ (35 * 300 + 3) * 300 := Nat.mul_le_mul_left _ hl
  rw [PyData.shownAll_length, List.length_map] at h1
  unfold dR
  simp only [PyData.shown]
  omega
theorem s_repF2 (B : Own H0 H T L) [P1 : Pull L p (.fm p qs (vv fam)) L'] [P2 : Pull L p2 (.fm p2 qs2 (vv fam2)) L1] (h : H a = some (.lst [.ref p, .ref p2])) (h1 : ∀ b ∈ fam, Sh b ∧ b.length ≤ 300) (l1 : fam.length ≤ 300) (h2 : ∀ b ∈ fam2, Sh b ∧ b.length ≤ 300) (l2 : fam2.length ≤ 300)
    (k : Q (.str (PyData.list [dR fam, dR fam2]).shown) H) : rRep K [.ref a] H Q := by
  obtain ⟨a1, a2, _, _⟩ := askR h1 l1
  obtain ⟨b1, b2, _, _⟩ := askR h2 l2
  have c1 := dR_sum h1 l1
  have c2 := dR_sum h2 l2
  refine ⟨a, .list [dR fam, dR fam2], rfl, .lst (SqL.of h) (.cons (dpR (B.getF p) (B.rowsF p)) (.cons (dpR (B.getF p2) (B.rowsF p2)) .nil)), ?_, ?_, ?_, ?_, k⟩
  · simp only [PyData.showable, PyData.showableAll, a1, b1, Bool.and_true]
  · simp only [PyData.hasDict, PyData.hasDictAll, a2, b2, Bool.or_false]
  · have z := listText_len_le (PyData.shownAll [dR fam, dR fam2])
    simp only [PyData.shown]
    simp only [PyData.shownAll, List.map_cons, List.map_nil, List.sum_cons, List.sum_nil, List.length_cons, List.length_nil] at z ⊢
    unfold sizeLine
    omega
  · have e : (PyData.list [dR fam, dR fam2]).depth ≤ 4 := by
      have d1 := dR_depth fam
      have d2 := dR_depth fam2
      have := depthAll_le (ds := [dR fam, dR fam2]) (m := 3) (fun d hd => by
        simp only [List.mem_cons, List.mem_nil_iff, or_false] at hd
        rcases hd with rfl | rfl
        · exact d1
        · exact d2)
      simp only [PyData.depth]
      omega
    omega
/-- three lists of ints in a list -/
theorem s_repI3 {a1 a2 a3 : Addr} {n1 n2 n3 : List Int} (h : H a = some (.lst [.ref a1, .ref a2, .ref a3])) (h1 : H a1 = some (.lst (n1.map V.int))) (h2 : H a2 = some (.lst (n2.map V.int))) (h3 : H a3 = some (.lst (n3.map V.int)))
    (s1 : Sh n1 ∧ n1.length ≤ 300) (s2 : Sh n2 ∧ n2.length ≤ 300) (s3 : Sh n3 ∧ n3.length ≤ 300) (k : Q (.str (dR [n1, n2, n3]).shown) H) : rRep K [.ref a] H Q := by
  obtain ⟨q1, q2, q3, q4⟩ := askR (bs := [n1, n2, n3]) (fun b hb => by
    simp only [List.mem_cons, List.mem_nil_iff, or_false] at hb
    rcases hb with rfl | rfl | rfl
    · exact s1
    · exact s2
    · exact s3) (show 3 ≤ 300 by decide)
  exact ⟨a, dR [n1, n2, n3], rfl, .lst (SqL.of h) (.cons (dpI (SqL.of h1)) (.cons (dpI (SqL.of h2)) (.cons (dpI (SqL.of h3)) .nil))), q1, q2, q3, q4, k⟩
end
end My
namespace My
open PySem PySem.Spec PyProof.Rows L2 LamX
theorem s_ixTH {K : PySem.W.Frag} {H : Hp} {a : Addr} {xs : List V} {i : Int} {v : V} {Q : VK} (h : H a = some (.tup xs)) (e : atI xs i = some v) (k : Q v H) : rIxT K (.ref a) (.int i) H Q := ⟨a, xs, i, v, rfl, rfl, SqT.of h, e, k⟩
end My
namespace My
open PySem PySem.Spec PyProof.Rows L2 LamX
theorem pe_gInt {X : Cx} {x : Str} {v : Int} {pos : Pos} (hg : Gl X x) (h : ∃ t, X.mg x = some (Value.int v t)) (hd : (x == ("__debug__" : Str)) = false := by decide) : PE X (.Name x pos) (tC (.int v)) := by
  obtain ⟨t, e⟩ := h
  exact pe_glob hg e ⟨t, rfl⟩ hd
def rDvm : List V → Hp → VK → Prop := fun xs H Q => ∃ i j, xs = [.int i, .int j] ∧ CDiv i j ∧ ∀ p, H p = none → Q (.ref p) (upd H p (.tup [.int (i / j), .int (i % j)]))
theorem cl_divmod {X : Cx} : CallR X (.builtin "divmod") rDvm := call_divmod
section
variable {K : PySem.W.Frag} {H0 H H' : Hp} {T : List (Addr × Str)} {L : List Cell} {a b : Addr} {xs ys : List V} {Q : VK} {σ : L2.St} {k1 k2 : Nat} {s : TS} {D : Ends} {i j : Int}
theorem s_divmod (B : Own H0 H T L) (h0 : 0 < j) (h1 : j < 1073741824) (k : ∀ p H', Own H0 H' T (.ob p (.tup [.int (i / j), .int (i % j)]) :: L) → Q (.ref p) H') : rDvm [.int i, .int j] H Q := ⟨i, j, rfl, ⟨h0, h1⟩, fun p n => k p _ (B.new n trivial)⟩
/-- for x, y in zip(xs, ys) -/
theorem s_forZ (Pv : Nat → L2.St → List Cell → Prop) (xs ys : List V) (hl : xs.length = ys.length) (B : Own H0 H T L) (start : Pv 0 σ L) (stays : ∀ i σ L H, Pv i σ L → Own H0 H T L → SqL K H a xs ∧ SqL K H b ys)
    (turn : ∀ i x y σ L H, xs[i]? = some x → ys[i]? = some y → Pv i σ L → Own H0 H T L → s { D with nx := Inn H0 T (Pv (i + 1)), ct := Inn H0 T (Pv (i + 1)), bk := D.nx } ((σ.set k1 (some x)).set k2 (some y)) H)
    (last : ∀ σ L H, Pv xs.length σ L → Own H0 H T L → D.nx σ H) : ForG (Itz K a b) (gTup K 2 (gCons (gName k1) (gCons (gName k2) gNil))) s D σ H :=
  RZ.for_zipL (K := K) (a := a) (b := b) (xs := xs) (ys := ys) hl (fun i => Inn H0 T (Pv i)) ⟨L, start, B⟩ (fun i σ H ⟨L, h, B⟩ => stays i σ L H h B)
    (fun i x y tp σ H hx hy ⟨L, h, B⟩ n => ⟨tp, _, rfl, SqT.of upd_same, rfl, _, _, rfl, _, _, rfl, rfl, turn i x y σ L _ hx hy h (B.new (o := .tup [x, y]) n trivial).tail⟩) (fun σ H ⟨L, h, B⟩ => last σ L H h B)
end
end My
namespace My
open PySem PySem.Spec PyProof.Rows L2 LamX
section
variable {K : PySem.W.Frag} {H0 H H' : Hp} {T : List (Addr × Str)} {L L1 L' : List Cell} {a b l : Addr} {xs ys : List V} {Q : VK} {σ : L2.St} {te : TE} {tl th : TO} {lo hi : Option Int} {ns ms : List Int} {i : Int} {Qo : Option Int → Hp → Prop}
theorem s_sl {r : V → Option Int → Option Int → Hp → VK → Prop} (k : te σ H fun x H1 => tl σ H1 fun l H2 => th σ H2 fun u H3 => r x l u H3 Q) : tSl r te tl th σ H Q := k
theorem s_noPart (k : Qo none H) : tNoPart σ H Qo := k
def PartAt (x : V) (H : Hp) (Qo : Option Int → Hp → Prop) : Prop := ∃ i, x = .int i ∧ Qo (some i) H
theorem s_part (k : te σ H fun x H1 => PartAt x H1 Qo) : tPart te σ H Qo := k
theorem s_partI (k : Qo (some i) H) : PartAt (.int i) H Qo := ⟨i, rfl, k⟩
theorem s_slL (B : Own H0 H T L) (h : H a = some (.lst xs)) (k : ∀ p H', Own H0 H' T (.ob p (.lst (cutV xs lo hi)) :: L) → Q (.ref p) H') : rSlL K (.ref a) lo hi H Q := ⟨a, xs, rfl, SqL.of h, fun p n => k p _ (B.new n trivial)⟩
/-- a list of flat values against the empty list -/
theorem s_eqE {ds : List PyData} (B : Own H0 H T L) [P1 : Pull L a (.ob a (.lst xs)) L'] [P2 : Pull L l (.ob l (.lst [])) L1] (hd : DpAll K H xs ds) (hs : SeqAt.shaped (.list ds) = true) (hl : ds.length = xs.length) (k : Q (.bl xs.isEmpty) H) : rEqD K (.ref a) (.ref l) H Q := by
  refine ⟨.list ds, .list [], .lst (SqL.of (B.get a)) hd, .lst (SqL.of (B.get l)) .nil, hs, shaped_I [], ?_⟩
  have e : PyData.eqv (.list ds) (.list []) = xs.isEmpty := by
    rw [eqv_empty]
    cases ds with
    | nil => cases xs with
      | nil => rfl
      | cons => cases hl
    | cons => cases xs with
      | nil => cases hl
      | cons => rfl
  rw [e]
  exact k
theorem s_eqIE (B : Own H0 H T L) [P1 : Pull L a (.ob a (.lst (ns.map V.int))) L'] [P2 : Pull L l (.ob l (.lst [])) L1] (k : Q (.bl ns.isEmpty) H) : rEqD K (.ref a) (.ref l) H Q :=
  s_eqE B (dpAll_ints ns) (shaped_I ns) (by rw [List.length_map, List.length_map]) (by
    have e : (ns.map V.int).isEmpty = ns.isEmpty := by cases ns <;> rfl
    rw [e]; exact k)
end
end My
namespace My
open PySem PySem.Spec PyProof.Rows L2 LamX
/-! l[a:c] = ys where c may lie behind the end -/
theorem clip_bounds {a c n : Nat} (h1 : a ≤ c) (h2 : a ≤ n) (h3 : n ≤ c) : sliceBounds (some (a : Int)) (some (c : Int)) none n = ((a : Int), (n : Int), 1) := by
  have n1 : ¬ (a : Int) < 0 := by omega
  have n2 : ¬ (c : Int) < 0 := by omega
  simp only [sliceBounds, Option.getD_none, n1, n2, if_false, show (1 : Int) > 0 from by decide, if_true]
  congr 1
  · omega
  · congr 1; omega
section
variable {pg : Program} {wd : World} {Ar : Around} {Ex : Value → Shared → Prop} {st : Shared}
set_option maxHeartbeats 0 in
theorem set_clip {l b sl : Addr} {old nw : Array Value} {u1 u2 : Nat} {lo hi : Value} {a c : Nat} {Qq : Unit → Shared → Prop}
    (eo : st.heap.get? l = some { cls := .type "list", data := .seq old u1 }) (eb : st.heap.get? b = some { cls := .type "list", data := .seq nw u2 }) (apart : l ≠ b)
    (hsl : st.heap.IsSliceOf sl lo hi .none) (p1 : IsPart lo (some (a : Int))) (p2 : IsPart hi (some (c : Int))) (h1 : a ≤ c) (h2 : a ≤ old.size) (h3 : old.size ≤ c)
    (room : old.size + nw.size ≤ sizeLine) (go : Qq () { st with heap := st.heap.update l (Obj.mapSeq fun zs => zs.extract 0 a ++ nw ++ zs.extract old.size zs.size) }) :
    wpAny (model pg wd) Ar (setItem (.ref l) (.ref sl) (.ref b)) Qq Ex st := by
  have lo' : st.heap.IsList l old := PySem.IsL.isList eo
  have bo' : st.heap.IsList b nw := PySem.IsL.isList eb
  obtain ⟨so, so1, so2, so3⟩ := id hsl
  have tsl : st.TypeIs (.ref sl) "slice" := ⟨so, so1, so2⟩
  have noStep : ¬ ((rawPart none == rawInt 0) = true) := Bool.false_ne_true
  have other : Builtin.List.listSameRef (.ref l) (.ref b) = false := beq_eq_false_iff_ne.mpr apart
  have mx : (max (a : Int) (old.size : Int)).toNat = old.size := by omega
  have fits : ((fun zs : Array Value => zs.extract 0 a ++ nw ++ zs.extract old.size zs.size) old).size ≤ sizeLine + 1 := by
    simp only [Array.size_append, Array.size_extract]; omega
  unfold setItem
  refine wpAny_holding ?m0
  refine wpAny_bind (wpAny_sequenceKey lo'.typeIs (by decide) ?_)
  refine wpAny_bind (wpAny_callSpecial?_slot (name := Str.ofString "__setitem__") lo'.typeIs slot_list_setitem (wpAny_call_entry slot_list_setitem lo'.typeIs entry_list_setitem ?m1 (args_list_setitem _ _ _)))
  show wpAny (model pg wd) _ (Builtin.List.listSubscript? (.ref sl) >>= _) _ _ st
  refine wpAny_bind ?m2
  unfold Builtin.List.listSubscript?
  refine wpAny_bind (wpAny_specialOf tsl slice_no_index ?m3)
  simp only [Option.isNone_none, if_true]
  refine wpAny_pure ?m4
  show wpAny (model pg wd) _ (typeOf (.ref sl) >>= _) _ _ st
  refine wpAny_bind (wpAny_typeOf tsl ?m5)
  rw [if_neg (by decide)]
  rw [listSliceParts_eq]
  refine wpAny_bind (wpAny_bind (wpAny_field so1 so3 (x := .none) rfl (wpAny_bind (wpAny_listPart .none ?m6))))
  rw [if_neg noStep]
  refine wpAny_bind (wpAny_field so1 so3 (x := lo) rfl (wpAny_bind (wpAny_listPart p1 ?m7)))
  refine wpAny_bind (wpAny_field so1 so3 (x := hi) rfl (wpAny_bind (wpAny_listPart p2 (wpAny_pure ?m8))))
  simp only [other, Bool.false_eq_true, if_false]
  refine wpAny_bind (m := Builtin.List.listAllItems (.ref b) "must assign iterable to extended slice") ?m9
  unfold Builtin.List.listAllItems
  refine wpAny_bind (wpAny_typeOf bo'.typeIs ?m10)
  rw [if_pos (by decide)]
  unfold Builtin.List.listItems
  refine wpAny_bind (wpAny_seqItems eb rfl (wpAny_pure ?m11))
  refine wpAny_bind (wpAny_bind (wpAny_seqItems eo rfl (wpAny_pure ?m12)))
  have ix : sliceIndices (rawPart (some (a : Int))) (rawPart (some (c : Int))) (rawPart none) old.size = pure ((a : Int), (old.size : Int), 1) :=
    (sliceIndices_raw (some (a : Int)) (some (c : Int)) none old.size (by simp)).trans (congrArg (fun z : Int × Int × Int => (pure z : Sem (Int × Int × Int))) (clip_bounds h1 h2 h3))
  refine wpAny_bind (wpAny_of_eq ix ?m13)
  show wpAny (model pg wd) _ (if ((1 : Int) == 1) = true then _ else _) _ _ st
  rw [if_pos (by decide)]
  refine wpAny_bind (wpAny_rule ?m14)
  rw [if_neg (by rw [notLongL room]; exact Bool.false_ne_true)]
  show wpAny (model pg wd) _ (updateSeq l (fun zs => zs.extract 0 ((a : Int)).toNat ++ nw ++ zs.extract (max (a : Int) (old.size : Int)).toNat zs.size) >>= _) _ _ st
  rw [mx, Int.toNat_natCast]
  refine wpAny_bind (wpAny_updateSeq (hz := Nat.le_trans (Nat.le_add_right _ _) room) (_hz' := fits) eo rfl ?m15)
  refine wpAny_bind (wpAny_letGo ?m16)
  exact wpAny_pure ⟨.none, rfl, wpAny_pure go⟩
end
section
variable {X : Cx}
/-- l[a:c] = ys of another list, c anywhere behind a -/
theorem set_any {pins : List (Addr × Obj)} {st : Shared} {v : L2.St} {H : Hp} {l b sl : Addr} {xs ys : List V} {a c : Int} {lo hi : Value} {Qq : Unit → Shared → Prop} (I : Inv X pins v H st)
    (hH : H l = some (.lst xs)) (hB : H b = some (.lst ys)) (apart : l ≠ b) (hsl : st.heap.IsSliceOf sl lo hi .none) (r1 : RelV (.int a) lo) (r2 : RelV (.int c) hi) (h0 : 0 ≤ a) (h1 : a ≤ c) (h2 : a ≤ xs.length)
    (room : xs.length + ys.length ≤ sizeLine) (go : ∀ s', Inv X pins v (upd H l (.lst (xs.take a.toNat ++ ys ++ xs.drop c.toNat))) s' → Qq () s') :
    wpAny (model X.prog X.w) X.A (setItem (.ref l) (.ref sl) (.ref b)) Qq X.xe st := by
  rcases Int.lt_or_le (xs.length : Int) c with h3 | h3
  · obtain ⟨t1, rfl⟩ := r1
    obtain ⟨t2, rfl⟩ := r2
    obtain ⟨u1, o1, k1, w1, g1, eo⟩ := I.lstM hH
    obtain ⟨u2, o2, k2, w2, g2, eb⟩ := I.lstM hB
    obtain ⟨a', rfl⟩ := Int.eq_ofNat_of_zero_le h0
    obtain ⟨c', rfl⟩ := Int.eq_ofNat_of_zero_le (Int.le_trans h0 h1)
    simp only [Int.toNat_natCast] at go
    have hd0 : xs.drop c' = xs.drop xs.length := by rw [List.drop_of_length_le (by omega), List.drop_length]
    rw [hd0] at go
    have hlen : o1.length = xs.length := by omega
    refine set_clip (a := a') (c := c') eo eb apart hsl (.int _ _) (.int _ _) (by omega) (by rw [List.size_toArray]; omega) (by rw [List.size_toArray]; omega) (by rw [List.size_toArray, List.size_toArray]; omega) (go _ ?_)
    refine I.lset (its' := o1.take a' ++ o2 ++ o1.drop o1.length) (t' := st.toks) hH eo ?_ (Vals.append (Vals.append (w1.take _) w2) (by rw [← hlen]; exact w1.drop _)) ?_
    · exact splice_eq o1 o2 a' o1.length
    · rw [List.length_append, List.length_append, List.length_take, List.length_drop]
      omega
  · exact set_slice I hH hB apart hsl r1 r2 h0 h1 h3 room go
def gSlcA (to : TE) (tl th : TO) : TG := fun v sg H Q => to sg H fun o H1 => tl sg H1 fun lo H2 => th sg H2 fun hi H3 =>
  ∃ (l b : Addr) (xs ys : List V) (a c : Int), o = .ref l ∧ v = .ref b ∧ lo = some a ∧ hi = some c ∧ H3 l = some (.lst xs) ∧ H3 b = some (.lst ys) ∧ l ≠ b ∧
    0 ≤ a ∧ a ≤ c ∧ a ≤ xs.length ∧ xs.length + ys.length ≤ sizeLine ∧ Q sg (upd H3 l (.lst (xs.take a.toNat ++ ys ++ xs.drop c.toNat)))
theorem pg_slcA {o : Expr} {lo hi : Option Expr} {p2 pos : Pos} {to : TE} {tl th : TO} (ho : PE X o to) (hl : PO X lo tl) (hh : PO X hi th)
    (ha : ∀ v, assign (.Subscript o (.Slice lo hi none p2) pos) X.env v = (do
      let ov ← holding [v] (eval o X.env)
      let iv ← holding [v, ov] (eval (.Slice lo hi none p2) X.env)
      standAt pos
      holding [v, ov, iv] (setItem ov iv v)
      release [iv, v, ov] []) := by intro _; rfl) : PG X (.Subscript o (.Slice lo hi none p2) pos) (gSlcA to tl th) := by
  refine ⟨fun pins s sg H v u Q I r want => ?_⟩
  rw [ha]
  refine wpAny_bind (wpAny_holding (thn (ho.run pins s sg H _ I want) ?_))
  rintro ov s1 ⟨x, H1, I1, r1, q1⟩
  refine wpAny_bind (wpAny_holding (wpAny_Slice (thn (hl.run pins s1 sg H1 _ I1 q1) ?_)))
  rintro vl s2 ⟨la, H2, I2, pl, q2⟩
  refine thn (hh.run pins s2 sg H2 _ I2 q2) ?_
  rintro vu s3 ⟨ua, H3, I3, pu, q3⟩
  rw [evalPart_none]
  refine wpAny_pure ?_
  have I4 : Inv X pins sg H3 { s3 with heap := s3.heap.push { cls := .type "slice", data := .fields #[vl, vu, .none] } } :=
    I3.kept (t' := s3.toks) (fun b ob q => Heap.get?_push_of_some _ q)
  obtain ⟨l, b, xs, ys, a, c, rfl, rfl, rfl, rfl, hx, hy, ne, h0, h1, h2, hz, q⟩ := q3
  have e1 : ov = Value.ref l := r1
  have e2 : u = Value.ref b := r
  subst e1 e2
  have ra : RelV (.int a) vl := by cases pl; exact ⟨_, rfl⟩
  have rc : RelV (.int c) vu := by cases pu; exact ⟨_, rfl⟩
  refine wpAny_bind (wpAny_standAt (wpAny_bind (wpAny_holding ?_)))
  refine set_any I4 hx hy ne (Heap.IsSliceOf.new ..) ra rc h0 h1 h2 hz (fun s5 I5 => ?_)
  exact wpAny_release ⟨sg, _, I5, q⟩
end
section
variable {H0 H : Hp} {T : List (Addr × Str)} {L L' : List Cell} {a b : Addr} {xs ys : List V} {σ : L2.St} {to : TE} {tl th : TO} {Qs : L2.St → Hp → Prop} {n c : Nat} {v : V}
def SlcAt (σ : L2.St) (Qs : L2.St → Hp → Prop) (v o : V) (lo hi : Option Int) (H3 : Hp) : Prop :=
  ∃ (l b : Addr) (xs ys : List V) (a c : Int), o = .ref l ∧ v = .ref b ∧ lo = some a ∧ hi = some c ∧ H3 l = some (.lst xs) ∧ H3 b = some (.lst ys) ∧ l ≠ b ∧
    0 ≤ a ∧ a ≤ c ∧ a ≤ xs.length ∧ xs.length + ys.length ≤ sizeLine ∧ Qs σ (upd H3 l (.lst (xs.take a.toNat ++ ys ++ xs.drop c.toNat)))
theorem s_gslc (k : to σ H fun o H1 => tl σ H1 fun lo H2 => th σ H2 fun hi H3 => SlcAt σ Qs v o lo hi H3) : gSlcA to tl th v σ H Qs := k
theorem s_slc (B : Own H0 H T L) [P : Pull L a (.ob a (.lst xs)) L'] (hb : H b = some (.lst ys)) (ne : a ≠ b) (h1 : n ≤ c) (h2 : n ≤ xs.length) (hz : xs.length + ys.length ≤ sizeLine)
    (k : ∀ H', Own H0 H' T (.ob a (.lst (xs.take n ++ ys ++ xs.drop c)) :: L') → Qs σ H') : SlcAt σ Qs (.ref b) (.ref a) (some (n : Int)) (some (c : Int)) H :=
  ⟨a, b, xs, ys, _, _, rfl, rfl, rfl, rfl, B.get a, hb, ne, by omega, by omega, by omega, hz, k _ ((B.pull a).wr trivial)⟩
end
end My
namespace My
open PySem PySem.Spec PyProof.Rows L2 LamX
theorem cut_mid {xs : List V} {a c : Nat} (h : a ≤ c) : cutV xs (some (a : Int)) (some (c : Int)) = (xs.drop a).take (c - a) := by
  unfold cutV
  rw [HT.sIx_nat, HT.sIx_nat]
  rcases Nat.le_total a xs.length with h1 | h1
  · rw [Nat.min_eq_left h1]
    rcases Nat.le_total c xs.length with h2 | h2
    · rw [Nat.min_eq_left h2]
    · rw [Nat.min_eq_right h2, List.take_of_length_le (by rw [List.length_drop]; omega), List.take_of_length_le (by rw [List.length_drop]; omega)]
  · rw [Nat.min_eq_right h1, List.drop_length, List.drop_of_length_le h1]
    simp
section
variable {K : PySem.W.Frag} {H0 H H' : Hp} {T : List (Addr × Str)} {L L' : List Cell} {a : Addr} {xs : List V} {Q : VK} {σ : L2.St} {vs : List Nat} {tt : TT} {te : TE} {kx n : Nat}
/-- a comprehension over a range with steps -/
theorem s_lcC {lo c : Int} (Pv : Nat → List V → List Cell → Prop) (B : Own H0 H T L) (start : Pv 0 [] L)
    (wp : ∀ x : V, wipe ((wipe σ vs).set kx (some x)) vs = wipe σ vs)
    (turn : ∀ D i acc L H, i < n → Pv i acc L → Own H0 H T (.ob D (.lst acc) :: L) → tt ((wipe σ vs).set kx (some (.int (lo + (i : Int) * c)))) H fun b H3 =>
      if b = true then te ((wipe σ vs).set kx (some (.int (lo + (i : Int) * c)))) H3 fun y H4 => ∃ acc, H4 D = some (.lst acc) ∧ acc.length < sizeLine ∧ NoEl H0 T D (Pv (i + 1)) (upd H4 D (.lst (acc ++ [y]))) else NoEl H0 T D (Pv (i + 1)) H3)
    (last : ∀ D acc L H, Pv n acc L → Own H0 H T (.ob D (.lst acc) :: L) → Q (.ref D) H) : LcG (Itc lo c n) (gName kx) tt te vs σ Q H := fun D nD => by
  refine ⟨fun i m H => m = n - i ∧ i ≤ n ∧ NoEl H0 T D (Pv i) H, ⟨n, rfl, Nat.zero_le _, [], L, B.new nD trivial, start⟩, ?_⟩
  rintro i m H ⟨em, le, acc, M, C, h⟩
  rcases Nat.lt_or_ge i n with lt | ge
  · refine Or.inr ⟨lt, NoEl H0 T D (Pv (i + 1)), fun H' p => ⟨n - (i + 1), by omega, rfl, lt, p⟩, ?_⟩
    rintro x H' ⟨rfl, rfl⟩
    exact ⟨wp _, turn D i acc M _ lt h C⟩
  · have e : i = n := by omega
    subst e
    exact Or.inl ⟨Nat.le_refl _, last D acc M H h C⟩
end
end My
namespace My
open PySem PySem.Spec PyProof.Rows L2 LamX
section
variable {K : PySem.W.Frag} {H0 H H' : Hp} {T : List (Addr × Str)} {L L' : List Cell} {a b : Addr} {o o2 : HO} {ns : List Int} {Q : VK}
theorem Own.ne2 (B : Own H0 H T (.ob a o :: L)) (b : Addr) [P : Pull L b (.ob b o2) L'] : a ≠ b := fun z => by
  have h := B.off (x := a) (List.mem_singleton.mpr rfl)
  have h2 : b ∈ foots L := List.mem_flatMap.mpr ⟨.ob b o2, P.p.mem_iff.mpr (List.mem_cons_self ..), List.mem_singleton.mpr rfl⟩
  exact h (z ▸ h2)
theorem s_sortH (B : Own H0 H T L) (h : H a = some (.lst (ns.map V.int))) (k : ∀ (ns' : List Int) p H', ns'.Perm ns → ns'.Pairwise (· ≤ ·) → Own H0 H' T (.ob p (.lst (ns'.map V.int)) :: L) → Q (.ref p) H') : rSortA K [.ref a] H Q :=
  ⟨a, ns, rfl, SqL.of h, fun ns' p pe so n => k ns' p _ pe so (B.new n trivial)⟩
end
theorem chunk_flat {s : Nat} (xs : List Int) : ∀ N : Nat, ((List.range N).map fun j => (xs.drop (j * s)).take s).flatten = xs.take (N * s)
  | 0 => by simp
  | N + 1 => by
    rw [List.range_succ, List.map_append, List.flatten_append, chunk_flat xs N, Nat.add_mul, Nat.one_mul, List.take_add]
    simp
theorem chunks_all {s m : Nat} (hs : 1 ≤ s) (xs : List Int) (h : xs.length = m) : ((List.range ((m + s - 1) / s)).map fun j => (xs.drop (j * s)).take s).flatten = xs := by
  rw [chunk_flat]
  refine List.take_of_length_le ?_
  rw [h]
  have h1 := Nat.div_add_mod (m + s - 1) s
  have h2 := Nat.mod_lt (m + s - 1) (show s > 0 by omega)
  rw [Nat.mul_comm] at h1
  omega
end My
namespace My
theorem flat_tk {fam : List (List Int)} (i : Nat) : (fam.take i).flatten.length ≤ fam.flatten.length := by
  have e := congrArg List.length (congrArg List.flatten (List.take_append_drop i fam))
  rw [List.flatten_append, List.length_append] at e
  omega
end My
namespace My
open PySem PySem.Spec PyProof.Rows L2 LamX
/-! dicts: cells `.ob a (.dK kvs)` -/
def DcG (J : It) (g : TG) (tt : TT) (tk tv : TE) (vs : List Nat) (σ : L2.St) (Q : VK) (H1 : Hp) : Prop := ∀ D, H1 D = none → ∃ W : Nat → Nat → Hp → Prop, (∃ m, W 0 m (upd H1 D (.dK []))) ∧ ∀ i m H, W i m H →
  (J.stop i H ∧ Q (.ref D) H) ∨ (J.go i H ∧ ∃ Nx : Hp → Prop, (∀ H', Nx H' → ∃ m', m' < m ∧ W (i + 1) m' H') ∧ ∀ x H', J.yld i H x H' → g x (wipe σ vs) H' fun σ2 H2 => wipe σ2 vs = wipe σ vs ∧ tt σ2 H2 fun b H3 =>
    if b = true then tk σ2 H3 fun y H4 => tv σ2 H4 fun z H5 => ∃ kvs k, y = kV k ∧ H5 D = some (.dK kvs) ∧ kvs.length < sizeLine ∧ Nx (upd H5 D (.dK (putK kvs k z))) else Nx H3)
section
variable {K : PySem.W.Frag} {H0 H H' : Hp} {T : List (Addr × Str)} {L L' : List Cell} {a : Addr} {xs : List V} {Q : VK} {σ : L2.St} {k1 k2 kx : Nat} {vs : List Nat} {tt : TT} {tk tv : TE} {wi : TI} {g : TG} {kvs : List (Key × V)}
theorem s_dc (k : wi σ H fun J H1 => DcG J g tt tk tv vs σ Q H1) : tDc wi g tt tk tv vs σ H Q := k
def NoDl (H0 : Hp) (T : List (Addr × Str)) (D : Addr) (Pv : List (Key × V) → List Cell → Prop) : Hp → Prop := fun H => ∃ acc L, Own H0 H T (.ob D (.dK acc) :: L) ∧ Pv acc L
theorem NoDl.mk {acc : List (Key × V)} {Pv : List (Key × V) → List Cell → Prop} {M : List Cell} (B : Own H0 H T L) [P : Pull L a (.ob a (.dK acc)) L'] [A : Arr L' M] (h : Pv acc M) : NoDl H0 T a Pv H := ⟨acc, M, (B.pull a).arrT, h⟩
/-- the end of a turn: one more entry -/
theorem s_dl {acc : List (Key × V)} {k : Key} {z : V} {Pv : List (Key × V) → List Cell → Prop} {M : List Cell} (B : Own H0 H T L) [P : Pull L a (.ob a (.dK acc)) L'] [A : Arr L' M] (hl : acc.length < sizeLine) (h : Pv (putK acc k z) M) :
    ∃ kvs k', kV k = kV k' ∧ H a = some (.dK kvs) ∧ kvs.length < sizeLine ∧ NoDl H0 T a Pv (upd H a (.dK (putK kvs k' z))) :=
  ⟨acc, k, rfl, B.get a, hl, putK acc k z, M, ((B.pull a).arrT (M := M)).wr trivial, h⟩
/-- {k: v for i, x in enumerate(xs)} -/
theorem s_dcE (Pv : Nat → List (Key × V) → List Cell → Prop) (xs : List V) (B : Own H0 H T L) (start : Pv 0 [] L) (stays : ∀ i acc L H, Pv i acc L → Own H0 H T L → SqL K H a xs)
    (wp : ∀ x y : V, wipe (((wipe σ vs).set k1 (some x)).set k2 (some y)) vs = wipe σ vs)
    (turn : ∀ D i x acc L H, xs[i]? = some x → Pv i acc L → Own H0 H T (.ob D (.dK acc) :: L) → tt (((wipe σ vs).set k1 (some (.int (i : Int)))).set k2 (some x)) H fun b H3 =>
      if b = true then tk (((wipe σ vs).set k1 (some (.int (i : Int)))).set k2 (some x)) H3 fun y H4 => tv (((wipe σ vs).set k1 (some (.int (i : Int)))).set k2 (some x)) H4 fun z H5 => ∃ kvs k, y = kV k ∧ H5 D = some (.dK kvs) ∧ kvs.length < sizeLine ∧ NoDl H0 T D (Pv (i + 1)) (upd H5 D (.dK (putK kvs k z))) else NoDl H0 T D (Pv (i + 1)) H3)
    (last : ∀ D acc L H, Pv xs.length acc L → Own H0 H T (.ob D (.dK acc) :: L) → Q (.ref D) H) : DcG (Ite K a) (gTup K 2 (gCons (gName k1) (gCons (gName k2) gNil))) tt tk tv vs σ Q H := fun D nD => by
  refine ⟨fun i m H => m = xs.length - i ∧ i ≤ xs.length ∧ NoDl H0 T D (Pv i) H, ⟨xs.length, rfl, Nat.zero_le _, [], L, B.new nD trivial, start⟩, ?_⟩
  rintro i m H ⟨em, le, acc, M, B, h⟩
  have sq := stays i acc M H h B.tail
  rcases Nat.lt_or_ge i xs.length with lt | ge
  · have at1 : xs[i]? = some xs[i] := List.getElem?_eq_getElem lt
    refine Or.inr ⟨⟨xs, xs[i], sq, at1⟩, NoDl H0 T D (Pv (i + 1)), ?_, ?_⟩
    · intro H' p'
      exact ⟨xs.length - (i + 1), by omega, rfl, lt, p'⟩
    · rintro x H' ⟨tp, y, e1, nT, e2, f⟩
      have ey := f xs sq
      subst e1 e2
      exact ⟨tp, _, rfl, SqT.of upd_same, rfl, _, _, rfl, _, _, rfl, rfl, wp _ _, turn D i y acc M _ ey h (B.new (o := .tup [.int (i : Nat), y]) nT trivial).tail⟩
  · have e : i = xs.length := by omega
    subst e
    exact Or.inl ⟨⟨xs, sq, Nat.le_refl _⟩, last D acc M H h B⟩
/-- {k: v for x in xs} -/
theorem s_dcL (Pv : Nat → List (Key × V) → List Cell → Prop) (xs : List V) (B : Own H0 H T L) (start : Pv 0 [] L) (stays : ∀ i acc L H, Pv i acc L → Own H0 H T L → SqL K H a xs)
    (wp : ∀ x : V, wipe ((wipe σ vs).set kx (some x)) vs = wipe σ vs)
    (turn : ∀ D i x acc L H, xs[i]? = some x → Pv i acc L → Own H0 H T (.ob D (.dK acc) :: L) → tt ((wipe σ vs).set kx (some x)) H fun b H3 =>
      if b = true then tk ((wipe σ vs).set kx (some x)) H3 fun y H4 => tv ((wipe σ vs).set kx (some x)) H4 fun z H5 => ∃ kvs k, y = kV k ∧ H5 D = some (.dK kvs) ∧ kvs.length < sizeLine ∧ NoDl H0 T D (Pv (i + 1)) (upd H5 D (.dK (putK kvs k z))) else NoDl H0 T D (Pv (i + 1)) H3)
    (last : ∀ D acc L H, Pv xs.length acc L → Own H0 H T (.ob D (.dK acc) :: L) → Q (.ref D) H) : DcG (Itl K a) (gName kx) tt tk tv vs σ Q H := fun D nD => by
  refine ⟨fun i m H => m = xs.length - i ∧ i ≤ xs.length ∧ NoDl H0 T D (Pv i) H, ⟨xs.length, rfl, Nat.zero_le _, [], L, B.new nD trivial, start⟩, ?_⟩
  rintro i m H ⟨em, le, acc, M, B, h⟩
  have sq := stays i acc M H h B.tail
  rcases Nat.lt_or_ge i xs.length with lt | ge
  · have at1 : xs[i]? = some xs[i] := List.getElem?_eq_getElem lt
    refine Or.inr ⟨⟨xs, xs[i], sq, at1⟩, NoDl H0 T D (Pv (i + 1)), ?_, ?_⟩
    · intro H' p'
      exact ⟨xs.length - (i + 1), by omega, rfl, lt, p'⟩
    · rintro x H' ⟨e1, f⟩
      have ey := f xs sq
      subst e1
      exact ⟨wp _, turn D i x acc M _ ey h B⟩
  · have e : i = xs.length := by omega
    subst e
    exact Or.inl ⟨⟨xs, sq, Nat.le_refl _⟩, last D acc M H h B⟩
/-- d[x] -/
def GetAt (x y : V) (H : Hp) (Q : VK) : Prop := ∃ a v, x = .ref a ∧ DGet H a y (some v) ∧ Q v H
theorem s_dg {td ty : TE} (k : td σ H fun x H1 => ty σ H1 fun y H2 => GetAt x y H2 Q) : tDGet td ty σ H Q := k
theorem s_dget {x : Int} {v : V} (h : H a = some (.dK kvs)) (e : valV kvs (.inl x) = some v) (k : Q v H) : GetAt (.ref a) (.int x) H Q := ⟨a, v, rfl, by rw [← e]; exact DGet.k (k := .inl x) h, k⟩
/-- x in d -/
def InAt (y x : V) (H : Hp) (Q : VK) : Prop := ∃ a o, x = .ref a ∧ DGet H a y o ∧ Q (.bl o.isSome) H
def NinAt (y x : V) (H : Hp) (Q : VK) : Prop := ∃ a o, x = .ref a ∧ DGet H a y o ∧ Q (.bl (!o.isSome)) H
theorem s_di {td ty : TE} (k : ty σ H fun y H1 => td σ H1 fun x H2 => InAt y x H2 Q) : tDIn ty td σ H Q := k
theorem s_dni {td ty : TE} (k : ty σ H fun y H1 => td σ H1 fun x H2 => NinAt y x H2 Q) : tDNotIn ty td σ H Q := k
theorem s_din {x : Int} (h : H a = some (.dK kvs)) (k : Q (.bl (valV kvs (.inl x)).isSome) H) : InAt (.int x) (.ref a) H Q := ⟨a, _, rfl, DGet.k (k := .inl x) h, k⟩
theorem s_dnin {x : Int} (h : H a = some (.dK kvs)) (k : Q (.bl (!(valV kvs (.inl x)).isSome)) H) : NinAt (.int x) (.ref a) H Q := ⟨a, _, rfl, DGet.k (k := .inl x) h, k⟩
theorem hu1_of {k : Nat} {A : Around} (hr : Room k A) : A.units + 1 < cLine := by have := hr.un; omega
/-- the dict number => place -/
def atMap (ns : List Int) : List (Key × V) := ns.zipIdx.map fun p => ((.inl p.1 : Key), V.int (p.2 : Int))
theorem atMap_snoc {ns : List Int} {i : Nat} {x : Int} (e : ns[i]? = some x) : atMap (ns.take (i + 1)) = atMap (ns.take i) ++ [((.inl x : Key), V.int (i : Int))] := by
  unfold atMap
  have hl := (List.getElem?_eq_some_iff.mp e).1
  rw [List.take_add_one, e, Option.toList_some, List.zipIdx_append, List.map_append, List.length_take, Nat.zero_add, Nat.min_eq_left (Nat.le_of_lt hl)]
  rfl
theorem atMap_none {ns : List Int} {x : Int} (h : x ∉ ns) : valV (atMap ns) (.inl x) = none := by
  unfold atMap valV
  rw [Option.map_eq_none_iff, List.find?_eq_none]
  intro p hp
  obtain ⟨q, hq, rfl⟩ := List.mem_map.mp hp
  intro e
  have e1 : q.1 = x := by simpa using e
  exact h (e1 ▸ List.fst_mem_of_mem_zipIdx hq)
theorem atMap_get (ns : List Int) {x : Int} (h : x ∈ ns) : valV (atMap ns) (.inl x) = some (.int ((ns.idxOf x : Nat) : Int)) := by
  have go : ∀ (ns : List Int) (s : Nat), x ∈ ns → valV ((ns.zipIdx s).map fun p => ((.inl p.1 : Key), V.int (p.2 : Int))) (.inl x) = some (.int ((s + ns.idxOf x : Nat) : Int)) := by
    intro ns
    induction ns with
    | nil => intro s h; cases h
    | cons y l ih =>
      intro s h
      rw [List.zipIdx_cons, List.map_cons]
      by_cases e : y = x
      · subst e
        rw [valV_pos rfl, List.idxOf_cons_self]
        rfl
      · rw [valV_neg (fun z => e (by simpa using z)), ih (s + 1) (by rcases List.mem_cons.mp h with r | r; exact absurd r.symm e; exact r), List.idxOf_cons, show (y == x) = false from beq_false_of_ne e, cond_false]
        congr 2
        omega
  have := go ns 0 h
  rwa [Nat.zero_add] at this
end
/-- repr of a truth value, of None, or of what is laid out -/
def bText (b : Bool) : Str := if b then "True" else "False"
def rRepX (K : PySem.W.Frag) : List V → Hp → VK → Prop := fun vs H Q => (∃ b, vs = [.bl b] ∧ Q (.str (bText b)) H) ∨ (vs = [.non] ∧ Q (.str "None") H) ∨ rRep K vs H Q
theorem cr_repX {X : Cx} (hg : X.A.guards = some []) (hu : X.A.units + 100 < cLine) : CallR X (.builtin "repr") (rRepX X.K) := by
  intro pins s sg H xs us Q I rv h
  rcases h with ⟨b, rfl, q⟩ | ⟨rfl, q⟩ | h
  · obtain ⟨u, rfl, ru⟩ := rv.one
    have ru' : u = Value.bool b := ru
    subst ru'
    exact PySem.P.repr_of_bool ⟨.str (bText b), H, I.tok _, ⟨_, by unfold bText; cases b <;> rfl⟩, q⟩
  · obtain ⟨u, rfl, ru⟩ := rv.one
    have ru' : u = Value.none := ru
    subst ru'
    exact PySem.P.repr_of_none ⟨.str "None", H, I.tok _, ⟨_, rfl⟩, q⟩
  · exact cr_rep hg hu pins s sg H xs us Q I rv h
section
variable {K : PySem.W.Frag} {H : Hp} {Q : VK} {a a1 a2 : Addr}
theorem s_repBl {b : Bool} (k : Q (.str (bText b)) H) : rRepX K [.bl b] H Q := .inl ⟨b, rfl, k⟩
theorem s_repNo (k : Q (.str "None") H) : rRepX K [.non] H Q := .inr (.inl ⟨rfl, k⟩)
theorem s_repRf (h : rRep K [.ref a] H Q) : rRepX K [.ref a] H Q := .inr (.inr h)
/-- two lists of ints in a list, one object or two -/
theorem s_repI2 {n1 n2 : List Int} (h : H a = some (.lst [.ref a1, .ref a2])) (h1 : H a1 = some (.lst (n1.map V.int))) (h2 : H a2 = some (.lst (n2.map V.int)))
    (s1 : Sh n1 ∧ n1.length ≤ 300) (s2 : Sh n2 ∧ n2.length ≤ 300) (k : Q (.str (dR [n1, n2]).shown) H) : rRep K [.ref a] H Q := by
  obtain ⟨q1, q2, q3, q4⟩ := askR (bs := [n1, n2]) (fun b hb => by
    simp only [List.mem_cons, List.mem_nil_iff, or_false] at hb
    rcases hb with rfl | rfl
    · exact s1
    · exact s2) (show 2 ≤ 300 by decide)
  exact ⟨a, dR [n1, n2], rfl, .lst (SqL.of h) (.cons (dpI (SqL.of h1)) (.cons (dpI (SqL.of h2)) .nil)), q1, q2, q3, q4, k⟩
/-- a tuple of two ints -/
theorem s_repT2 {x y : Int} (h : H a = some (.tup [.int x, .int y])) (hs : Sh [x, y]) (k : Q (.str (PyData.tuple [.int x, .int y]).shown) H) : rRep K [.ref a] H Q := by
  obtain ⟨h1, h2, h3, h4⟩ := askI hs (show 2 ≤ 4000 by decide)
  unfold dI at h1 h2 h3 h4
  refine ⟨a, .tuple [.int x, .int y], rfl, .tup (SqT.of h) (.cons (.int x) (.cons (.int y) .nil)), ?_, ?_, ?_, ?_, k⟩
  · simpa [PyData.showable] using h1
  · simpa [PyData.hasDict] using h2
  · have z1 := tupleText_len_le (PyData.shownAll ([x, y].map PyData.int))
    have z2 := sumI [x, y] hs
    rw [PyData.shownAll_length, List.length_map] at z1
    simp only [List.length_cons, List.length_nil] at z1 z2
    simp only [PyData.shown]
    unfold sizeLine
    simp only [List.map_cons, List.map_nil] at z1 z2
    omega
  · simpa [PyData.depth] using h4
end
end My
namespace My
open PySem PySem.Spec PyProof.Rows L2 LamX
/-! for i, (x, y) in enumerate(zip(xs, ys)): the zip keeps what it has handed out -/
abbrev IsZipK (h : Heap) (z TI TO : Addr) (f0 : Value) (b : Bool) : Prop :=
  h.get? z = some { cls := .type "zip", dict := none, data := .fields #[f0, .bool b, .bool false, .ref TI, .ref TO], slots := #[] }
section
variable {prog : Program} {w : World} {A : Around} {E : Value → Shared → Prop} {s : Shared}
theorem wpAny_alive {M : Model} {a : Addr} {Q : Option Obj → Shared → Prop} (h : Q (s.heap.get? a) s) : wpAny M A (loadIfAlive a) Q E s := fun _ _ _ => h
/-- it is not free: what it handed out is alive -/
theorem owned_not {z TI TO T0 : Addr} {b : Bool} {o : Obj} {Q : Bool → Shared → Prop} (hz : IsZipK s.heap z TI TO (rawInt T0) b) (ho : s.heap.get? T0 = some o)
    (h : ∀ h', IsZipK h' z TI TO (rawInt T0) true → Heap.SameBut z s.heap h' → Q false { s with heap := h' }) : wpAny (model prog w) A (Builtin.SmallTypes.ownedTupleIsFree (.ref z)) Q E s := by
  unfold Builtin.SmallTypes.ownedTupleIsFree
  refine wpAny_bind (wpAny_field hz rfl (x := rawInt T0) rfl ?_)
  show wpAny _ _ (loadIfAlive ((T0 : Int)).toNat >>= _) _ _ s
  refine wpAny_bind (wpAny_alive ?_)
  rw [Int.toNat_natCast, ho]
  simp only [Option.isNone_some, Bool.false_eq_true, if_false]
  refine wpAny_bind (wpAny_field hz rfl (x := .bool b) rfl ?_)
  cases b with
  | true => exact wpAny_pure (h _ hz ⟨rfl, fun _ _ => rfl⟩)
  | false =>
    show wpAny _ _ (setField (.ref z) 1 (.bool true) >>= _) _ _ s
    exact wpAny_bind (wpAny_setField_rec hz (by simp) fun h' hz' hs' => wpAny_pure (h h' hz' hs'))
theorem owned_dead {z TI TO T0 : Addr} {b : Bool} {Q : Bool → Shared → Prop} (hz : IsZipK s.heap z TI TO (rawInt T0) b) (ho : s.heap.get? T0 = none)
    (h : Q true s) : wpAny (model prog w) A (Builtin.SmallTypes.ownedTupleIsFree (.ref z)) Q E s := by
  unfold Builtin.SmallTypes.ownedTupleIsFree
  refine wpAny_bind (wpAny_field hz rfl (x := rawInt T0) rfl ?_)
  show wpAny _ _ (loadIfAlive ((T0 : Int)).toNat >>= _) _ _ s
  refine wpAny_bind (wpAny_alive ?_)
  rw [Int.toNat_natCast, ho]
  simp only [Option.isNone_none, if_true]
  exact wpAny_pure h
theorem zip_next_kept {z TI TO i1 i2 l1 l2 T0 : Addr} {k1 k2 : Nat} {xs ys : Array Value} {x y : Value} {b : Bool} {o : Obj} {Q : Value → Shared → Prop} (D : ZipApart z TI TO i1 i2 l1 l2)
    (hz : IsZipK s.heap z TI TO (rawInt T0) b) (ho : s.heap.get? T0 = some o) (hTI : IsPair s.heap TI (.ref i1) (.ref i2))
    (h1 : s.heap.IsListIter i1 l1 k1) (h2 : s.heap.IsListIter i2 l2 k2) (hl1 : s.heap.IsList l1 xs) (hl2 : s.heap.IsList l2 ys) (hx : xs[k1]? = some x) (hy : ys[k2]? = some y)
    (hQ : ∀ h', IsZipK h' z TI TO (rawInt T0) true → h'.IsListIter i1 l1 (k1 + 1) → h'.IsListIter i2 l2 (k2 + 1) → IsPair h' s.heap.objs.size x y → h'.objs.size = s.heap.objs.size + 1 →
      (∀ c o, c ≠ z → c ≠ i1 → c ≠ i2 → s.heap.get? c = some o → h'.get? c = some o) → Q (.ref s.heap.objs.size) { s with heap := h' }) :
    wpAny (model prog w) A (Builtin.«zip.__next__» ⟨[.ref z], []⟩) (fun fin s' => ∃ v, fin = .done (.ret v) ∧ Q v s') E s := by
  show wpAny _ _ (field (.ref z) 2 >>= _) _ _ _
  refine wpAny_bind (wpAny_field hz rfl (x := .bool false) rfl ?_)
  show wpAny _ _ (field (.ref z) 3 >>= _) _ _ _
  refine wpAny_bind (wpAny_field hz rfl (x := .ref TI) rfl ?_)
  refine wpAny_bind (wpAny_seqItems hTI rfl ?_)
  show wpAny _ _ (Builtin.SmallTypes.ownedTupleIsFree (.ref z) >>= _) _ _ _
  refine wpAny_bind (owned_not hz ho fun h₁ hz₁ hs₁ => ?_)
  simp only [Bool.false_eq_true, if_false]
  rw [← Array.forIn_toList]
  simp only [List.forIn_cons, List.forIn_nil]
  refine wpAny_bind (wpAny_bind (wpAny_bind (wpAny_holding ?_)))
  show wpAny _ _ (Builtin.SmallTypes.nextOf (.ref i1) >>= _) _ _ _
  refine wpAny_bind (wpAny_nextOf_list_item (h1.extBut hs₁.extBut D.i1z) (hl1.extBut hs₁.extBut D.l1z) hx fun h₂ h1₂ hs₂ => wpAny_pure (wpAny_pure ?_))
  refine wpAny_bind (wpAny_bind (wpAny_holding ?_))
  show wpAny _ _ (Builtin.SmallTypes.nextOf (.ref i2) >>= _) _ _ _
  refine wpAny_bind (wpAny_nextOf_list_item ((h2.extBut hs₁.extBut D.i2z).extBut hs₂.extBut D.i12.symm) ((hl2.extBut hs₁.extBut D.l2z).extBut hs₂.extBut D.l2i1) hy fun h₃ h2₃ hs₃ => wpAny_pure (wpAny_pure (wpAny_pure ?_)))
  show wpAny _ _ (newTuple [x, y] >>= _) _ _ _
  refine wpAny_bind (wpAny_newTuple ?_)
  have hsz : h₃.objs.size = s.heap.objs.size := by rw [hs₃.1, hs₂.1, hs₁.1]
  have hz₃ : IsZipK h₃ z TI TO (rawInt T0) true := hs₃.extBut _ _ D.i2z.symm (hs₂.extBut _ _ D.i1z.symm hz₁)
  have h1₃ : h₃.IsListIter i1 l1 (k1 + 1) := h1₂.extBut hs₃.extBut D.i12
  refine wpAny_pure ⟨_, rfl, ?_⟩
  show Q (.ref h₃.objs.size) _
  rw [hsz]
  refine hQ _ (Heap.get?_push_of_some _ hz₃) (h1₃.at fun o e => Heap.get?_push_of_some _ e) (h2₃.at fun o e => Heap.get?_push_of_some _ e) ?_ (by rw [Heap.size_push, hsz]) fun c o c1 c3 c4 e => Heap.get?_push_of_some _ (hs₃.extBut _ _ c4 (hs₂.extBut _ _ c3 (hs₁.extBut _ _ c1 e)))
  rw [← hsz]
  exact Heap.get?_push_size _ rfl
theorem zip_kept_end {z TI TO i1 i2 l1 l2 T0 : Addr} {k1 k2 : Nat} {xs ys : Array Value} {b : Bool} {o : Obj} {Q : Fin → Shared → Prop} (hh : A.handled = none) (D : ZipApart z TI TO i1 i2 l1 l2)
    (hz : IsZipK s.heap z TI TO (rawInt T0) b) (ho : s.heap.get? T0 = some o) (hTI : IsPair s.heap TI (.ref i1) (.ref i2))
    (h1 : s.heap.IsListIter i1 l1 k1) (h2 : s.heap.IsListIter i2 l2 k2) (hl1 : s.heap.IsList l1 xs) (hl2 : s.heap.IsList l2 ys) (hend : xs[k1]? = none ∨ ys[k2]? = none)
    (hE : ∀ h' e, (∀ c o, c ≠ z → c ≠ TO → c ≠ i1 → c ≠ i2 → s.heap.get? c = some o → h'.get? c = some o) → (∃ o, h'.get? e = some o ∧ o.cls = .type "StopIteration") → E (.ref e) { s with heap := h' }) :
    wpAny (model prog w) A (Builtin.«zip.__next__» ⟨[.ref z], []⟩) Q E s := by
  show wpAny _ _ (field (.ref z) 2 >>= _) _ _ _
  refine wpAny_bind (wpAny_field hz rfl (x := .bool false) rfl ?_)
  show wpAny _ _ (field (.ref z) 3 >>= _) _ _ _
  refine wpAny_bind (wpAny_field hz rfl (x := .ref TI) rfl ?_)
  refine wpAny_bind (wpAny_seqItems hTI rfl ?_)
  show wpAny _ _ (Builtin.SmallTypes.ownedTupleIsFree (.ref z) >>= _) _ _ _
  refine wpAny_bind (owned_not hz ho fun h₁ hz₁ hs₁ => ?_)
  simp only [Bool.false_eq_true, if_false]
  rw [← Array.forIn_toList]
  simp only [List.forIn_cons, List.forIn_nil]
  refine wpAny_bind (wpAny_bind (wpAny_bind (wpAny_holding ?_)))
  show wpAny _ _ (Builtin.SmallTypes.nextOf (.ref i1) >>= _) _ _ _
  cases hx : xs[k1]? with
  | none => exact wpAny_bind (wpAny_nextOf_list_end hh (h1.extBut hs₁.extBut D.i1z) (hl1.extBut hs₁.extBut D.l1z) hx fun h₂ e hs₂ he => hE h₂ e (fun c o c1 _ c3 _ x => hs₂ _ _ c3 (hs₁.extBut _ _ c1 x)) he)
  | some x =>
    have hy : ys[k2]? = none := by rcases hend with h | h; rw [hx] at h; cases h; exact h
    refine wpAny_bind (wpAny_nextOf_list_item (h1.extBut hs₁.extBut D.i1z) (hl1.extBut hs₁.extBut D.l1z) hx fun h₂ h1₂ hs₂ => wpAny_pure (wpAny_pure ?_))
    refine wpAny_bind (wpAny_bind (wpAny_holding ?_))
    show wpAny _ _ (Builtin.SmallTypes.nextOf (.ref i2) >>= _) _ _ _
    exact wpAny_bind (wpAny_nextOf_list_end hh ((h2.extBut hs₁.extBut D.i2z).extBut hs₂.extBut D.i12.symm) ((hl2.extBut hs₁.extBut D.l2z).extBut hs₂.extBut D.l2i1) hy fun h₄ e hs₄ he => hE h₄ e (fun c o c1 c2 c3 c4 x => hs₄ _ _ c4 (hs₂.extBut _ _ c3 (hs₁.extBut _ _ c1 x))) he)
/-- the zip is free: from any mark -/
theorem zip_next_free {z TI TO i1 i2 l1 l2 : Addr} {k1 k2 : Nat} {xs ys : Array Value} {x y u v f0 : Value} {b : Bool} {Q : Value → Shared → Prop} (D : ZipApart z TI TO i1 i2 l1 l2)
    (hz : IsZipK s.heap z TI TO f0 b) (fr : ∀ (A' : Around) (E' : Value → Shared → Prop) (R : Bool → Shared → Prop), R true s → wpAny (model prog w) A' (Builtin.SmallTypes.ownedTupleIsFree (.ref z)) R E' s) (hTI : IsPair s.heap TI (.ref i1) (.ref i2)) (hTO : IsPair s.heap TO u v)
    (h1 : s.heap.IsListIter i1 l1 k1) (h2 : s.heap.IsListIter i2 l2 k2) (hl1 : s.heap.IsList l1 xs) (hl2 : s.heap.IsList l2 ys) (hx : xs[k1]? = some x) (hy : ys[k2]? = some y)
    (hQ : ∀ h', IsZipK h' z TI TO (rawInt s.heap.objs.size) false → IsPair h' TO x y → h'.IsListIter i1 l1 (k1 + 1) → h'.IsListIter i2 l2 (k2 + 1) → IsPair h' s.heap.objs.size x y → h'.objs.size = s.heap.objs.size + 1 →
      (∀ c o, c ≠ z → c ≠ TO → c ≠ i1 → c ≠ i2 → s.heap.get? c = some o → h'.get? c = some o) → Q (.ref s.heap.objs.size) { s with heap := h' }) :
    wpAny (model prog w) A (Builtin.«zip.__next__» ⟨[.ref z], []⟩) (fun fin s' => ∃ v, fin = .done (.ret v) ∧ Q v s') E s := by
  show wpAny _ _ (field (.ref z) 2 >>= _) _ _ _
  refine wpAny_bind (wpAny_field hz rfl (x := .bool false) rfl ?_)
  show wpAny _ _ (field (.ref z) 3 >>= _) _ _ _
  refine wpAny_bind (wpAny_field hz rfl (x := .ref TI) rfl (wpAny_bind (wpAny_seqItems hTI rfl ?_)))
  show wpAny _ _ (Builtin.SmallTypes.ownedTupleIsFree (.ref z) >>= _) _ _ _
  refine wpAny_bind (fr _ _ _ ?_)
  simp only [if_true]
  refine wpAny_bind (wpAny_rule (wpAny_bind (wpAny_field hz rfl (x := .ref TO) rfl (wpAny_bind (wpAny_setField_rec hz (by simp) fun g1 z1 b1 => ?_)))))
  have z1' : IsZipK g1 z TI TO .ellipsis b := z1
  simp only [List.zipIdx_cons, List.zipIdx_nil, List.forIn_cons, List.forIn_nil]
  refine wpAny_bind (wpAny_bind (wpAny_bind (wpAny_onRaise ?_)))
  show wpAny _ _ (Builtin.SmallTypes.nextOf (.ref i1) >>= _) _ _ _
  refine wpAny_bind (wpAny_nextOf_list_item (h1.extBut b1.extBut D.i1z) (hl1.extBut b1.extBut D.l1z) hx fun g2 p2 b2 => wpAny_pure ?_)
  have t2 : IsPair g2 TO u v := b2.extBut _ _ D.TOi1 (b1.extBut _ _ D.TOz hTO)
  refine wpAny_bind (wpAny_seqItems t2 rfl (wpAny_bind (wpAny_updateSeq_pair t2 fun g3 t3 b3 => wpAny_bind (wpAny_letGo (wpAny_pure ?_)))))
  refine wpAny_bind (wpAny_bind (wpAny_onRaise ?_))
  show wpAny _ _ (Builtin.SmallTypes.nextOf (.ref i2) >>= _) _ _ _
  refine wpAny_bind (wpAny_nextOf_list_item (((h2.extBut b1.extBut D.i2z).extBut b2.extBut D.i12.symm).extBut b3.extBut D.TOi2.symm) (((hl2.extBut b1.extBut D.l2z).extBut b2.extBut D.l2i1).extBut b3.extBut D.l2TO) hy fun g4 p4 b4 => wpAny_pure ?_)
  have t4 : IsPair g4 TO x v := b4.extBut _ _ D.TOi2 t3
  refine wpAny_bind (wpAny_seqItems t4 rfl (wpAny_bind (wpAny_updateSeq_pair t4 fun g5 t5' b5 => wpAny_bind (wpAny_letGo (wpAny_pure (wpAny_pure ?_))))))
  have t5 : IsPair g5 TO x y := t5'
  refine wpAny_bind (wpAny_seqItems t5 rfl (wpAny_bind (wpAny_newTuple ?_)))
  have sz : g5.objs.size = s.heap.objs.size := by rw [b5.1, b4.1, b3.1, b2.1, b1.1]
  have z5 : IsZipK g5 z TI TO .ellipsis b := b5.extBut _ _ D.TOz.symm (b4.extBut _ _ D.i2z.symm (b3.extBut _ _ D.TOz.symm (b2.extBut _ _ D.i1z.symm z1')))
  have p5 : g5.IsListIter i1 l1 (k1 + 1) := ((p2.extBut b3.extBut D.TOi1.symm).extBut b4.extBut D.i12).extBut b5.extBut D.TOi1.symm
  have q5 : g5.IsListIter i2 l2 (k2 + 1) := p4.extBut b5.extBut D.TOi2.symm
  have zl : z < g5.objs.size := Heap.lt_size z5
  show wpAny _ _ (Builtin.SmallTypes.ownedTupleHandOut (.ref z) (.ref g5.objs.size) >>= _) _ _ _
  refine wpAny_bind ?_
  unfold Builtin.SmallTypes.ownedTupleHandOut
  have z6 : IsZipK (g5.push { cls := .type "tuple", data := .seq #[x, y] }) z TI TO .ellipsis b := Heap.get?_push_of_some _ z5
  refine wpAny_bind (wpAny_setField_rec z6 (by simp) fun g7 z7 b7 => ?_)
  have z7' : IsZipK g7 z TI TO (rawInt g5.objs.size) b := z7
  refine wpAny_setField_rec z7' (by simp) fun g8 z8 b8 => ?_
  have z8' : IsZipK g8 z TI TO (rawInt g5.objs.size) false := z8
  have up : ∀ c o, c ≠ z → g5.get? c = some o → g8.get? c = some o := fun c o ne e => b8.extBut _ _ ne (b7.extBut _ _ ne (Heap.get?_push_of_some _ e))
  have T8 : IsPair g8 g5.objs.size x y := b8.extBut _ _ (Nat.ne_of_gt zl) (b7.extBut _ _ (Nat.ne_of_gt zl) (Heap.get?_push_size _ rfl))
  have s8 : g8.objs.size = g5.objs.size + 1 := by rw [b8.1, b7.1, Heap.size_push]
  rw [sz] at z8' T8 s8
  refine wpAny_pure ⟨_, rfl, ?_⟩
  show Q (.ref g5.objs.size) _
  rw [sz]
  exact hQ g8 z8' (up _ _ D.TOz t5) (p5.at fun o e => up _ o D.i1z e) (q5.at fun o e => up _ o D.i2z e) T8 s8 fun c o c1 c2 c3 c4 e => up c o c1 (b5.extBut _ _ c2 (b4.extBut _ _ c4 (b3.extBut _ _ c2 (b2.extBut _ _ c3 (b1.extBut _ _ c1 e)))))
theorem zip_free_end {z TI TO i1 i2 l1 l2 : Addr} {k1 k2 : Nat} {xs ys : Array Value} {u v f0 : Value} {b : Bool} {Q : Fin → Shared → Prop} (hh : A.handled = none) (D : ZipApart z TI TO i1 i2 l1 l2)
    (hz : IsZipK s.heap z TI TO f0 b) (fr : ∀ (A' : Around) (E' : Value → Shared → Prop) (R : Bool → Shared → Prop), R true s → wpAny (model prog w) A' (Builtin.SmallTypes.ownedTupleIsFree (.ref z)) R E' s) (hTI : IsPair s.heap TI (.ref i1) (.ref i2)) (hTO : IsPair s.heap TO u v)
    (h1 : s.heap.IsListIter i1 l1 k1) (h2 : s.heap.IsListIter i2 l2 k2) (hl1 : s.heap.IsList l1 xs) (hl2 : s.heap.IsList l2 ys) (hend : xs[k1]? = none ∨ ys[k2]? = none)
    (hE : ∀ h' e, (∀ c o, c ≠ z → c ≠ TO → c ≠ i1 → c ≠ i2 → s.heap.get? c = some o → h'.get? c = some o) → (∃ o, h'.get? e = some o ∧ o.cls = .type "StopIteration") → E (.ref e) { s with heap := h' }) :
    wpAny (model prog w) A (Builtin.«zip.__next__» ⟨[.ref z], []⟩) Q E s := by
  show wpAny _ _ (field (.ref z) 2 >>= _) _ _ _
  refine wpAny_bind (wpAny_field hz rfl (x := .bool false) rfl ?_)
  show wpAny _ _ (field (.ref z) 3 >>= _) _ _ _
  refine wpAny_bind (wpAny_field hz rfl (x := .ref TI) rfl (wpAny_bind (wpAny_seqItems hTI rfl ?_)))
  show wpAny _ _ (Builtin.SmallTypes.ownedTupleIsFree (.ref z) >>= _) _ _ _
  refine wpAny_bind (fr _ _ _ ?_)
  simp only [if_true]
  refine wpAny_bind (wpAny_rule (wpAny_bind (wpAny_field hz rfl (x := .ref TO) rfl (wpAny_bind (wpAny_setField_rec hz (by simp) fun g1 z1 b1 => ?_)))))
  have z1' : IsZipK g1 z TI TO .ellipsis b := z1
  simp only [List.zipIdx_cons, List.zipIdx_nil, List.forIn_cons, List.forIn_nil]
  refine wpAny_bind (wpAny_bind (wpAny_bind (wpAny_onRaise ?_)))
  show wpAny _ _ (Builtin.SmallTypes.nextOf (.ref i1) >>= _) _ _ _
  cases hx : xs[k1]? with
  | none =>
    refine wpAny_bind (wpAny_nextOf_list_end hh (h1.extBut b1.extBut D.i1z) (hl1.extBut b1.extBut D.l1z) hx fun g2 e b2 he => ?_)
    obtain ⟨oe, hoe, hce⟩ := he
    have z2 : IsZipK g2 z TI TO .ellipsis b := b2 _ _ D.i1z.symm z1'
    have ez : e ≠ z := fun q => by subst q; rw [z2] at hoe; cases hoe; simp at hce
    exact wpAny_setField_rec z2 (by simp) fun g3 _ b3 => hE g3 e (fun c o c1 _ c3 _ q => b3.extBut _ _ c1 (b2 _ _ c3 (b1.extBut _ _ c1 q))) ⟨oe, b3.extBut _ _ ez hoe, hce⟩
  | some x =>
    have hy : ys[k2]? = none := by rcases hend with h | h; rw [hx] at h; cases h; exact h
    refine wpAny_bind (wpAny_nextOf_list_item (h1.extBut b1.extBut D.i1z) (hl1.extBut b1.extBut D.l1z) hx fun g2 p2 b2 => wpAny_pure ?_)
    have t2 : IsPair g2 TO u v := b2.extBut _ _ D.TOi1 (b1.extBut _ _ D.TOz hTO)
    refine wpAny_bind (wpAny_seqItems t2 rfl (wpAny_bind (wpAny_updateSeq_pair t2 fun g3 t3 b3 => wpAny_bind (wpAny_letGo (wpAny_pure ?_)))))
    refine wpAny_bind (wpAny_bind (wpAny_onRaise ?_))
    show wpAny _ _ (Builtin.SmallTypes.nextOf (.ref i2) >>= _) _ _ _
    refine wpAny_bind (wpAny_nextOf_list_end hh (((h2.extBut b1.extBut D.i2z).extBut b2.extBut D.i12.symm).extBut b3.extBut D.TOi2.symm) (((hl2.extBut b1.extBut D.l2z).extBut b2.extBut D.l2i1).extBut b3.extBut D.l2TO) hy fun g4 e b4 he => ?_)
    obtain ⟨oe, hoe, hce⟩ := he
    have z4 : IsZipK g4 z TI TO .ellipsis b := b4 _ _ D.i2z.symm (b3.extBut _ _ D.TOz.symm (b2.extBut _ _ D.i1z.symm z1'))
    have ez : e ≠ z := fun q => by subst q; rw [z4] at hoe; cases hoe; simp at hce
    exact wpAny_setField_rec z4 (by simp) fun g5 _ b5 => hE g5 e (fun c o c1 c2 c3 c4 q => b5.extBut _ _ c1 (b4 _ _ c4 (b3.extBut _ _ c2 (b2.extBut _ _ c3 (b1.extBut _ _ c1 q))))) ⟨oe, b5.extBut _ _ ez hoe, hce⟩
/-- what the zip is like between two draws -/
def ZipRest (h : Heap) (z TI TO : Addr) : Prop := ∃ f0 b, IsZipK h z TI TO f0 b ∧ (f0 = .none ∨ ∃ T0 : Addr, f0 = rawInt T0)
theorem nextOf_zip {z TI TO i1 i2 l1 l2 : Addr} {k1 k2 : Nat} {xs ys : Array Value} {x y u v : Value} {Q : Value → Shared → Prop} (D : ZipApart z TI TO i1 i2 l1 l2)
    (hz : ZipRest s.heap z TI TO) (hTI : IsPair s.heap TI (.ref i1) (.ref i2)) (hTO : IsPair s.heap TO u v)
    (h1 : s.heap.IsListIter i1 l1 k1) (h2 : s.heap.IsListIter i2 l2 k2) (hl1 : s.heap.IsList l1 xs) (hl2 : s.heap.IsList l2 ys) (hx : xs[k1]? = some x) (hy : ys[k2]? = some y)
    (hQ : ∀ h', ZipRest h' z TI TO → (∃ u v, IsPair h' TO u v) → h'.IsListIter i1 l1 (k1 + 1) → h'.IsListIter i2 l2 (k2 + 1) → IsPair h' s.heap.objs.size x y → h'.objs.size = s.heap.objs.size + 1 →
      (∀ c o, c ≠ z → c ≠ TO → c ≠ i1 → c ≠ i2 → s.heap.get? c = some o → h'.get? c = some o) → Q (.ref s.heap.objs.size) { s with heap := h' }) :
    wpAny (model prog w) A (Builtin.SmallTypes.nextOf (.ref z)) Q E s := by
  obtain ⟨f0, b, hz, hf⟩ := hz
  have hT : s.TypeIs (.ref z) "zip" := ⟨_, hz, rfl⟩
  unfold Builtin.SmallTypes.nextOf
  refine wpAny_bind (wpAny_callSpecial?_slot (name := Str.ofString "__next__") hT F.slot_zip_next (wpAny_call_entry F.slot_zip_next hT F.entry_zip_next ?_ (F.args_zip_next_1 _)))
  have free : ∀ (R : Value → Shared → Prop), (∀ v s', Q v s' → R v s') → (∀ (A' : Around) (E' : Value → Shared → Prop) (R : Bool → Shared → Prop), R true s → wpAny (model prog w) A' (Builtin.SmallTypes.ownedTupleIsFree (.ref z)) R E' s) → wpAny (model prog w) A.in1 (Builtin.«zip.__next__» ⟨[.ref z], []⟩) (fun fin s' => ∃ v, fin = .done (.ret v) ∧ R v s') E s := fun R up fr =>
    zip_next_free D hz fr hTI hTO h1 h2 hl1 hl2 hx hy fun h' a1 a2 a3 a4 a5 a6 a7 => up _ _ (hQ h' ⟨_, _, a1, .inr ⟨_, rfl⟩⟩ ⟨_, _, a2⟩ a3 a4 a5 a6 a7)
  rcases hf with rfl | ⟨T0, rfl⟩
  · refine free _ (fun v s' q => wpAny_pure q) fun A' E' R r => ?_
    unfold Builtin.SmallTypes.ownedTupleIsFree
    exact wpAny_bind (wpAny_field hz rfl (x := .none) rfl (wpAny_pure r))
  · cases ho : s.heap.get? T0 with
    | none => exact free _ (fun v s' q => wpAny_pure q) fun A' E' R r => owned_dead hz ho r
    | some o => exact zip_next_kept D hz ho hTI h1 h2 hl1 hl2 hx hy fun h' a1 a3 a4 a5 a6 a7 => wpAny_pure (hQ h' ⟨_, _, a1, .inr ⟨_, rfl⟩⟩ ⟨u, v, a7 _ _ D.TOz D.TOi1 D.TOi2 hTO⟩ a3 a4 a5 a6 fun c o c1 c2 c3 c4 e => a7 c o c1 c3 c4 e)
theorem nextOf_zip_end {z TI TO i1 i2 l1 l2 : Addr} {k1 k2 : Nat} {xs ys : Array Value} {u v : Value} {Q : Value → Shared → Prop} (hh : A.handled = none) (D : ZipApart z TI TO i1 i2 l1 l2)
    (hz : ZipRest s.heap z TI TO) (hTI : IsPair s.heap TI (.ref i1) (.ref i2)) (hTO : IsPair s.heap TO u v)
    (h1 : s.heap.IsListIter i1 l1 k1) (h2 : s.heap.IsListIter i2 l2 k2) (hl1 : s.heap.IsList l1 xs) (hl2 : s.heap.IsList l2 ys) (hend : xs[k1]? = none ∨ ys[k2]? = none)
    (hE : ∀ h' e, (∀ c o, c ≠ z → c ≠ TO → c ≠ i1 → c ≠ i2 → s.heap.get? c = some o → h'.get? c = some o) → (∃ o, h'.get? e = some o ∧ o.cls = .type "StopIteration") → E (.ref e) { s with heap := h' }) :
    wpAny (model prog w) A (Builtin.SmallTypes.nextOf (.ref z)) Q E s := by
  obtain ⟨f0, b, hz, hf⟩ := hz
  have hT : s.TypeIs (.ref z) "zip" := ⟨_, hz, rfl⟩
  unfold Builtin.SmallTypes.nextOf
  refine wpAny_bind (wpAny_callSpecial?_slot (name := Str.ofString "__next__") hT F.slot_zip_next (wpAny_call_entry F.slot_zip_next hT F.entry_zip_next ?_ (F.args_zip_next_1 _)))
  have hh1 : A.in1.handled = none := hh
  rcases hf with rfl | ⟨T0, rfl⟩
  · refine zip_free_end hh1 D hz (fun A' E' R r => ?_) hTI hTO h1 h2 hl1 hl2 hend hE
    unfold Builtin.SmallTypes.ownedTupleIsFree
    exact wpAny_bind (wpAny_field hz rfl (x := .none) rfl (wpAny_pure r))
  · cases ho : s.heap.get? T0 with
    | none => exact zip_free_end hh1 D hz (fun A' E' R r => owned_dead hz ho r) hTI hTO h1 h2 hl1 hl2 hend hE
    | some o => exact zip_kept_end hh1 D hz ho hTI h1 h2 hl1 hl2 hend hE
end
end My
namespace My
open PySem PySem.Spec PyProof.Rows L2 LamX
section
variable {prog : Program} {w : World} {A : Around} {E : Value → Shared → Prop} {s : Shared}
theorem enum_over {e it : Addr} {i : Nat} {old : Value} {R : Value → Heap → Prop} {Q : Value → Shared → Prop} (he : IsEnum s.heap e it i old)
    (draw : ∀ Q' : Value → Shared → Prop, (∀ x g, R x g → IsEnum g e it i old → Q' x { s with heap := g }) → wpAny (model prog w) A (Builtin.SmallTypes.nextOf (.ref it)) Q' E s)
    (hQ : ∀ x g h', R x g → IsEnumOut h' e it ((i : Int) + 1) x g.objs.size → h'.get? g.objs.size = some { cls := .type "tuple", data := .seq #[.int i s.toks, x] } → h'.objs.size = g.objs.size + 1 →
      (∀ b o, b ≠ e → g.get? b = some o → h'.get? b = some o) → Q (.ref g.objs.size) { s with heap := h', toks := s.toks + 1 }) :
    wpAny (model prog w) A (Builtin.«enumerate.__next__» ⟨[.ref e], []⟩) (fun fin s' => ∃ v, fin = .done (.ret v) ∧ Q v s') E s := by
  obtain ⟨hp, gn, dr, tk, os⟩ := s
  show wpAny _ _ (field (.ref e) 2 >>= _) _ _ _
  refine wpAny_bind (wpAny_field he rfl (x := .ref it) rfl (wpAny_bind (draw _ fun x g r e0 => ?_)))
  show wpAny _ _ (field (.ref e) 3 >>= _) _ _ ⟨g, gn, dr, tk, os⟩
  refine wpAny_bind (wpAny_field e0 rfl (x := rawInt i) rfl ?_)
  show wpAny _ _ (field (.ref e) 4 >>= _) _ _ ⟨g, gn, dr, tk, os⟩
  refine wpAny_bind (wpAny_field e0 rfl (x := .none) rfl ?_)
  show wpAny _ _ (mkInt i >>= _) _ _ ⟨g, gn, dr, tk, os⟩
  refine wpAny_bind (wpAny_mkInt ?_)
  show wpAny _ _ (setField (.ref e) 3 (rawInt ((i : Int) + 1)) >>= _) _ _ ⟨g, gn, dr, tk + 1, os⟩
  refine wpAny_bind (wpAny_setField_rec e0 (by simp) fun g1 e1 b1 => ?_)
  have e1' : IsEnum g1 e it ((i : Int) + 1) old := e1
  show wpAny _ _ (setField (.ref e) 4 .none >>= _) _ _ ⟨g1, gn, dr, tk + 1, os⟩
  refine wpAny_bind (wpAny_setField_rec e1' (by simp) fun g2 e2 b2 => ?_)
  have e2' : IsEnum g2 e it ((i : Int) + 1) old := e2
  have s2 : g2.objs.size = g.objs.size := by rw [b2.1, b1.1]
  have el : e < g.objs.size := Heap.lt_size e0
  show wpAny _ _ (newTuple [.int i tk, x] >>= _) _ _ ⟨g2, gn, dr, tk + 1, os⟩
  refine wpAny_bind (wpAny_newTuple ?_)
  have e3 : IsEnum (g2.push { cls := .type "tuple", data := .seq #[.int i tk, x] }) e it ((i : Int) + 1) old := Heap.get?_push_of_some _ e2'
  have T3 : (g2.push { cls := .type "tuple", data := .seq #[.int i tk, x] }).get? g.objs.size = some { cls := .type "tuple", data := .seq #[.int i tk, x] } := by rw [← s2]; exact Heap.get?_push_size _ rfl
  have z3 : (g2.push { cls := .type "tuple", data := .seq #[.int i tk, x] }).objs.size = g.objs.size + 1 := by rw [Heap.size_push, s2]
  have k3 : ∀ b o, b ≠ e → g.get? b = some o → (g2.push { cls := .type "tuple", data := .seq #[.int i tk, x] }).get? b = some o := fun b o ne h => Heap.get?_push_of_some _ (b2.extBut b o ne (b1.extBut b o ne h))
  rw [s2]
  show wpAny _ _ (Builtin.SmallTypes.ownedTupleIsFree (.ref e) >>= _) _ _ ⟨g2.push { cls := .type "tuple", data := .seq #[.int i tk, x] }, gn, dr, tk + 1, os⟩
  generalize g2.push { cls := .type "tuple", data := .seq #[.int i tk, x] } = g3 at e3 T3 z3 k3
  refine wpAny_bind ?_
  unfold Builtin.SmallTypes.ownedTupleIsFree
  refine wpAny_bind (wpAny_field e3 rfl (x := .none) rfl (wpAny_pure ?_))
  simp only [if_true]
  refine wpAny_bind (wpAny_rule (wpAny_bind (wpAny_field e3 rfl (x := old) rfl (wpAny_bind (wpAny_setField_rec e3 (by simp) fun g5 e5 b5 => ?_)))))
  have e5' : IsEnum g5 e it ((i : Int) + 1) x := e5
  show wpAny _ _ (Builtin.SmallTypes.ownedTupleHandOut (.ref e) (.ref g.objs.size) >>= _) _ _ ⟨g5, gn, dr, tk + 1, os⟩
  refine wpAny_bind ?_
  unfold Builtin.SmallTypes.ownedTupleHandOut
  refine wpAny_bind (wpAny_setField_rec e5' (by simp) fun g6 e6 b6 => ?_)
  have e6' : IsEnumOut g6 e it ((i : Int) + 1) x g.objs.size := e6
  refine wpAny_setField_rec e6' (by simp) fun g7 e7 b7 => ?_
  have e7' : IsEnumOut g7 e it ((i : Int) + 1) x g.objs.size := e7
  have up : ∀ b o, b ≠ e → g3.get? b = some o → g7.get? b = some o := fun b o ne h => b7.extBut b o ne (b6.extBut b o ne (b5.extBut b o ne h))
  exact wpAny_bind (wpAny_letGo (wpAny_pure ⟨_, rfl, hQ x g g7 r e7' (up _ _ (Nat.ne_of_gt el) T3) (by rw [b7.1, b6.1, b5.1, z3]) fun b o ne h => up b o ne (k3 b o ne h)⟩))
theorem pyNext_over {e it : Addr} {i : Nat} {old : Value} {R : Value → Heap → Prop} {Q : Option Value → Shared → Prop} (he : IsEnum s.heap e it i old)
    (draw : ∀ Q' : Value → Shared → Prop, (∀ x g, R x g → IsEnum g e it i old → Q' x { s with heap := g }) → ∀ E' : Value → Shared → Prop, wpAny (model prog w) A.in1 (Builtin.SmallTypes.nextOf (.ref it)) Q' E' s)
    (hQ : ∀ x g h', R x g → IsEnumOut h' e it ((i : Int) + 1) x g.objs.size → h'.get? g.objs.size = some { cls := .type "tuple", data := .seq #[.int i s.toks, x] } → h'.objs.size = g.objs.size + 1 →
      (∀ b o, b ≠ e → g.get? b = some o → h'.get? b = some o) → Q (some (.ref g.objs.size)) { s with heap := h', toks := s.toks + 1 }) :
    wpAny (model prog w) A (pyNext (.ref e)) Q E s := by
  have hT : s.TypeIs (.ref e) "enumerate" := ⟨_, he, rfl⟩
  unfold pyNext
  exact wpAny_bind (wpAny_attempt (wpAny_callSpecial?_slot (name := Str.ofString "__next__") hT F.slot_enumerate_next
    (wpAny_call_entry F.slot_enumerate_next hT F.entry_enumerate_next (enum_over he (fun Q' h => draw Q' h _) fun x g h' r a b c k => wpAny_pure (hQ x g h' r a b c k)) (F.args_enumerate_next_1 _))))
theorem pyNext_over_end {e it : Addr} {i : Int} {old : Value} {R : Heap → Prop} {Q : Option Value → Shared → Prop} (he : IsEnum s.heap e it i old)
    (draw : ∀ (Q' E' : Value → Shared → Prop), (∀ g x, R g → (∃ o, g.get? x = some o ∧ o.cls = .type "StopIteration") → E' (.ref x) { s with heap := g }) → wpAny (model prog w) A.in1 (Builtin.SmallTypes.nextOf (.ref it)) Q' E' s)
    (hQ : ∀ g, R g → Q none { s with heap := g }) : wpAny (model prog w) A (pyNext (.ref e)) Q E s := by
  have hT : s.TypeIs (.ref e) "enumerate" := ⟨_, he, rfl⟩
  unfold pyNext
  refine wpAny_bind (wpAny_attempt (wpAny_callSpecial?_slot (name := Str.ofString "__next__") hT F.slot_enumerate_next (wpAny_call_entry F.slot_enumerate_next hT F.entry_enumerate_next ?_ (F.args_enumerate_next_1 _))))
  show wpAny _ _ (field (.ref e) 2 >>= _) _ _ _
  refine wpAny_bind (wpAny_field he rfl (x := .ref it) rfl (wpAny_bind (draw _ _ fun g x r hx => ?_)))
  obtain ⟨o, ho, hc⟩ := hx
  exact wpAny_bind (wpAny_isInstance (T := "StopIteration") (b := true) ⟨o, ho, hc⟩ isSubtype_stop (wpAny_pure (hQ _ r)))
end
theorem enum_new_zip (z TI TO : Addr) : Meets (Builtin.«enumerate.__new__» ⟨[.type "enumerate", .ref z], []⟩) (fun _ R s => IsZip s.heap z TI TO .none ∧
      R (.ok (.ret (.ref s.heap.objs.size))) { s with heap := s.heap.push { cls := .type "enumerate", data := .fields #[.none, .bool false, .ref z, rawInt 0, .none, .none] } }) :=
  .of_wp fun prog w A R s h => by
    obtain ⟨hp, gn, dr, tk, os⟩ := s
    obtain ⟨hz, h⟩ := h
    have hsub := sub_enumerate
    have q1 : ∀ {A' : Around} {E : Value → Shared → Prop} {Q : Value → Shared → Prop}, Q (.ref z) ⟨hp, gn, dr, tk, os⟩ → wpAny (model prog w) A' (pyIter (.ref z)) Q E ⟨hp, gn, dr, tk, os⟩ := fun q => wpAny_pyIter_zip hz q
    wp_walk using q1, wpAny_loadPart' hz
    refine wpAny_stack_any fun st => wpAny_pure ?_
    split
    · rename_i c _ _ _ _ _
      cases (c == Value.type "enumerate")
      · wp_walk using q1, wpAny_loadPart' hz
        exact ⟨_, rfl, h⟩
      · wp_walk using q1, wpAny_loadPart' hz
        exact ⟨_, rfl, h⟩
    · wp_walk using q1, wpAny_loadPart' hz
      exact ⟨_, rfl, h⟩
end My
namespace My
open PySem PySem.Spec PyProof.Rows L2 LamX
theorem call_enum_zip {prog : Program} {w : World} {A : Around} {E : Value → Shared → Prop} {s : Shared} {z TI TO : Addr} {Q : Value → Shared → Prop} (hz : IsZip s.heap z TI TO .none)
    (h : ∀ h', IsEnum h' s.heap.objs.size z 0 .none → h'.objs.size = s.heap.objs.size + 1 → (∀ b o, s.heap.get? b = some o → h'.get? b = some o) → Q (.ref s.heap.objs.size) { s with heap := h' }) :
    wpAny (model prog w) A (call (.type "enumerate") [.ref z]) Q E s := by
  refine callType_new F.called_enumerate (by decide) (F.typeCall_enumerate_1 _) (F.newCall_enumerate_1 _) (fun obj => F.args_object_init_2 obj _) F.entry_enumerate_new (enum_new_zip z TI TO) ⟨hz, ?_⟩
  have he : IsEnum (s.heap.push { cls := .type "enumerate", data := .fields #[.none, .bool false, .ref z, rawInt 0, .none, .none] }) s.heap.objs.size z 0 .none := Heap.get?_push_size _ rfl
  exact ⟨⟨_, he, rfl⟩, h _ he (Heap.size_push ..) fun b o e => Heap.get?_push_of_some _ e⟩
/-- index and pair, both new, of two lists as they stand -/
def Itez (K : PySem.W.Frag) (a b : Addr) : It :=
  ⟨fun i H => ∃ (xs ys : List V) (x y : V), SqL K H a xs ∧ SqL K H b ys ∧ xs[i]? = some x ∧ ys[i]? = some y,
    fun i H v H' => ∃ T U x y, v = .ref U ∧ H T = none ∧ upd H T (.tup [x, y]) U = none ∧ H' = upd (upd H T (.tup [x, y])) U (.tup [.int (i : Nat), .ref T]) ∧ (∀ xs, SqL K H a xs → xs[i]? = some x) ∧ ∀ ys, SqL K H b ys → ys[i]? = some y,
    fun i H => ∃ xs ys : List V, SqL K H a xs ∧ SqL K H b ys ∧ (xs.length ≤ i ∨ ys.length ≤ i)⟩
structure EzSt (e z TI TO i1 i2 a b : Addr) (i : Nat) (h : Heap) : Prop where
  en : ∃ old, IsEnum h e z ((i : Nat) : Int) old
  zp : ZipRest h z TI TO
  ti : IsPair h TI (.ref i1) (.ref i2)
  to : ∃ x y, IsPair h TO x y
  p1 : h.IsListIter i1 a i
  p2 : h.IsListIter i2 b i
theorem EzSt.lt {e z TI TO i1 i2 a b : Addr} {i : Nat} {h : Heap} (st : EzSt e z TI TO i1 i2 a b i h) : ∀ c ∈ [e, z, TI, TO, i1, i2], ∃ o, h.get? c = some o ∧ ∀ v, o.data ≠ .cell v := by
  intro c hc
  obtain ⟨⟨old, en⟩, ⟨f0, bb, zp, _⟩, ti, ⟨x, y, to⟩, ⟨o1, e1, _, d1⟩, ⟨o2, e2, _, d2⟩⟩ := st
  have c' : c = e ∨ c = z ∨ c = TI ∨ c = TO ∨ c = i1 ∨ c = i2 := by simpa using hc
  rcases c' with q | q | q | q | q | q <;> rw [q]
  · exact ⟨_, en, fun v q => nomatch q⟩
  · exact ⟨_, zp, fun v q => nomatch q⟩
  · exact ⟨_, ti, fun v q => nomatch q⟩
  · exact ⟨_, to, fun v q => nomatch q⟩
  · exact ⟨o1, e1, fun v q => by rw [d1] at q; cases q⟩
  · exact ⟨o2, e2, fun v q => by rw [d2] at q; cases q⟩
theorem EzSt.keep {e z TI TO i1 i2 a b : Addr} {i : Nat} {h h' : Heap} (st : EzSt e z TI TO i1 i2 a b i h) (k : ∀ c ∈ [e, z, TI, TO, i1, i2], ∀ o, h.get? c = some o → h'.get? c = some o) : EzSt e z TI TO i1 i2 a b i h' := by
  obtain ⟨⟨old, en⟩, ⟨f0, bb, zp, r⟩, ti, ⟨x, y, to⟩, p1, p2⟩ := st
  exact ⟨⟨old, k e (by simp) _ en⟩, ⟨f0, bb, k z (by simp) _ zp, r⟩, k TI (by simp) _ ti, ⟨x, y, k TO (by simp) _ to⟩, p1.at fun o q => k i1 (by simp) o q, p2.at fun o q => k i2 (by simp) o q⟩
theorem turn_enumzip {P : Program} {w : World} {K : PySem.W.Frag} {elts : List Expr} {kk : Nat} {tpos : Pos} {a b e z TI TO i1 i2 : Addr} (D : ZipApart z TI TO i1 i2 a b) (ne : ∀ c ∈ [z, TI, TO, i1, i2], e ≠ c) :
    Turn P w K (.Tuple elts kk tpos) (Itez K a b) [e, z, TI, TO, i1, i2] e (EzSt e z TI TO i1 i2 a b) where
  mem := by simp
  obj := fun i h st c hc => st.lt c hc
  keep := fun i h h' st k => st.keep k
  item := by
    intro X hP hw hK hc i pins s σ H E I hf st hg
    subst hP hw hK
    have lts := st.lt
    obtain ⟨⟨old, en⟩, zr, ti, ⟨x0, y0, to⟩, p1, p2⟩ := st
    obtain ⟨xs, ys, x, y, hqx, hqy, hx, hy⟩ := hg
    obtain ⟨its, rv, pl1, _⟩ := I.list hqx
    obtain ⟨its2, rv2, pl2, _⟩ := I.list hqy
    obtain ⟨u, hu, ru⟩ := rv.get hx
    obtain ⟨u2, hu2, ru2⟩ := rv2.get hy
    have ez := ne z (by simp)
    refine pyNext_over (R := fun v g => v = .ref s.heap.objs.size ∧ ZipRest g z TI TO ∧ (∃ u v, IsPair g TO u v) ∧ g.IsListIter i1 a (i + 1) ∧ g.IsListIter i2 b (i + 1) ∧ IsPair g s.heap.objs.size u u2 ∧ g.objs.size = s.heap.objs.size + 1 ∧
      (∀ c o, c ≠ z → c ≠ TO → c ≠ i1 → c ≠ i2 → s.heap.get? c = some o → g.get? c = some o)) en (fun Q' h E' => ?_) (fun v g h' hR eo hT hsz hk => ?_)
    · exact nextOf_zip D zr ti to p1 p2 pl1.isList pl2.isList (x := u) (y := u2) (by simpa using hu) (by simpa using hu2) fun g a1 a2 a3 a4 a5 a6 a7 => h _ g ⟨rfl, a1, a2, a3, a4, a5, a6, a7⟩ (a7 _ _ ez (ne TO (by simp)) (ne i1 (by simp)) (ne i2 (by simp)) en)
    · obtain ⟨rfl, zr1, ⟨u0, v0, to1⟩, p11, p21, hT1, gs, gk⟩ := hR
      refine ⟨_, rfl, wpAny_letOwnedTupleGo_enum (s := { s with heap := h', toks := s.toks + 1 }) eo fun h'' he' sb => ?_⟩
      have lt : ∀ c ∈ [e, z, TI, TO, i1, i2], c < s.heap.objs.size := fun c hc => by
        obtain ⟨o, ho, _⟩ := lts c hc
        exact Heap.lt_size ho
      have ele := lt e (by simp)
      have up : ∀ c o, c ≠ e → g.get? c = some o → h''.get? c = some o := fun c o n q => (sb.2 _ n).trans (hk c o n q)
      have new1 : ObjOk X.prog X.w (upd H s.heap.objs.size (.tup [x, y])) g s.heap.objs.size (.tup [x, y]) :=
        ⟨by show 2 ≤ sizeLine; decide, [u, u2], .cons ru (.cons ru2 .nil), ⟨_, hT1, rfl, _, rfl⟩⟩
      have I1 : Inv X pins σ (upd H s.heap.objs.size (.tup [x, y])) { s with heap := g, toks := s.toks } :=
        I.turnedNew (ch := [e, z, TI, TO, i1, i2]) (fun c o hb q => gk c o (fun z => hb (by simp [z])) (fun z => hb (by simp [z])) (fun z => hb (by simp [z])) (fun z => hb (by simp [z])) q) hf (Nat.le_refl _) new1
      have hf1 : ∀ c ∈ [e, z, TI, TO, i1, i2], FpOk X pins (upd H s.heap.objs.size (.tup [x, y])) c := fun c hc => ⟨by rw [upd_ne (Nat.ne_of_lt (lt c hc))]; exact (hf c hc).1, (hf c hc).2⟩
      have hT2 : h''.get? g.objs.size = some { cls := .type "tuple", data := .seq #[.int i s.toks, .ref s.heap.objs.size] } := (sb.2 _ (Nat.ne_of_gt (show e < g.objs.size by rw [gs]; exact Nat.lt_succ_of_lt ele))).trans hT
      have new2 : ObjOk X.prog X.w (upd (upd H s.heap.objs.size (.tup [x, y])) g.objs.size (.tup [.int (i : Nat), .ref s.heap.objs.size])) h'' g.objs.size (.tup [.int (i : Nat), .ref s.heap.objs.size]) :=
        ⟨by show 2 ≤ sizeLine; decide, [.int i s.toks, .ref s.heap.objs.size], .cons ⟨_, rfl⟩ (.cons rfl .nil), ⟨_, hT2, rfl, _, rfl⟩⟩
      have I2 : Inv X pins σ (upd (upd H s.heap.objs.size (.tup [x, y])) g.objs.size (.tup [.int (i : Nat), .ref s.heap.objs.size])) { s with heap := h'', toks := s.toks + 1 } :=
        I1.turnedNew (ch := [e, z, TI, TO, i1, i2]) (fun c o hb q => up c o (fun z => hb (by simp [z])) q) hf1 (Nat.le_refl _) new2
      refine ⟨.ref g.objs.size, _, I2, rfl, ⟨_, _, x, y, rfl, I.hok.fresh (Nat.le_refl _), I1.hok.fresh (Nat.le_refl _), rfl, fun l hl => by rw [I.list_inj hl hqx]; exact hx, fun l hl => by rw [I.list_inj hl hqy]; exact hy⟩, ⟨⟨.ref s.heap.objs.size, ?_⟩, ?_, ?_, ⟨u0, v0, ?_⟩, ?_, ?_⟩, fun c hcm => ?_⟩
      · have e1 : ((i + 1 : Nat) : Int) = (i : Int) + 1 := by omega
        rw [e1]; exact he'
      · obtain ⟨f0, bb, zp, r⟩ := zr1
        exact ⟨f0, bb, up _ _ ez.symm zp, r⟩
      · exact up _ _ (ne TI (by simp)).symm (gk _ _ D.TIz D.TITO D.TIi1 D.TIi2 ti)
      · exact up _ _ (ne TO (by simp)).symm to1
      · exact p11.at fun o q => up _ _ (ne i1 (by simp)).symm q
      · exact p21.at fun o q => up _ _ (ne i2 (by simp)).symm q
      · have lc := lt c hcm
        rw [upd_ne (Nat.ne_of_lt (show c < g.objs.size by rw [gs]; exact Nat.lt_succ_of_lt lc)), upd_ne (Nat.ne_of_lt lc)]
        exact (hf c hcm).1
  done := by
    intro X hP hw hK hc i pins s σ H E I hf st hg
    subst hP hw hK
    obtain ⟨⟨old, en⟩, zr, ti, ⟨x0, y0, to⟩, p1, p2⟩ := st
    obtain ⟨xs, ys, hqx, hqy, hend⟩ := hg
    obtain ⟨its, rv, pl1, _⟩ := I.list hqx
    obtain ⟨its2, rv2, pl2, _⟩ := I.list hqy
    have l1 := rv.length
    have l2 := rv2.length
    have he : its.toArray[i]? = none ∨ its2.toArray[i]? = none := by
      rcases hend with q | q
      · exact .inl (by simp; omega)
      · exact .inr (by simp; omega)
    refine pyNext_over_end (R := fun g => ∀ c o, c ≠ z → c ≠ TO → c ≠ i1 → c ≠ i2 → s.heap.get? c = some o → g.get? c = some o) en (fun Q' E' h => ?_) (fun g hk => ⟨rfl, I.turnedL (t' := s.toks) (ch := [e, z, TI, TO, i1, i2]) (fun c o hb q =>
      hk c o (fun q' => hb (by simp [q'])) (fun q' => hb (by simp [q'])) (fun q' => hb (by simp [q'])) (fun q' => hb (by simp [q'])) q) hf⟩)
    exact nextOf_zip_end (A := X.A.in1) (I.ok.hd hc) D zr ti to p1 p2 pl1.isList pl2.isList he fun g x hk ho => h g x hk ho
  self := fun A i s Q E st h => let ⟨_, he⟩ := st.en; wpAny_pyIter_enum he h
def iEnumZip (K : PySem.W.Frag) (ta : TA) : TI := fun σ H R => ta σ H fun vs H1 => ∃ a b xs ys, vs = [.ref a, .ref b] ∧ SqL K H1 a xs ∧ SqL K H1 b ys ∧ R (Itez K a b) H1
theorem pi_enumzip {X : Cx} {e e2 : Expr} {ta : TA} {p p2 pos pos2 tpos : Pos} {elts : List Expr} {kk : Nat} (hg0 : Gl X "enumerate") (hm0 : X.mg "enumerate" = none) (hg : Gl X "zip") (hm : X.mg "zip" = none) (ha : PA X [e, e2] ta)
    (hs : starEach [e, e2] X.env = (false, eval e X.env) :: starEach [e2] X.env := by rfl) (hpl : (backTo pos2 (starEach [e2] X.env)).any (·.1) = false := by rfl)
    (na : starEach [.Call (.Name "zip" p2) [e, e2] [] pos2] X.env = (false, eval (.Call (.Name "zip" p2) [e, e2] [] pos2) X.env) :: starEach [] X.env := by rfl) :
    PI X (.Tuple elts kk tpos) (.Call (.Name "enumerate" p) [.Call (.Name "zip" p2) [e, e2] [] pos2] [] pos) (iEnumZip X.K ta) := by
  refine ⟨fun pins s σ H R I h => ?_⟩
  refine Call_ (ld_blt I hg0 hm0 boot_enumerate (PyProof.Rows.callWith_type1 (args_cons (Call_ (ld_blt I hg hm PyProof.Rows.boot_zip (PyProof.Rows.callWith_type1 (thn (ha.run pos2 pins s σ H _ I h) fun us s1 ⟨vs, H1, I1, r1, q1⟩ => ?_) hs hpl))) na) na rfl))
  obtain ⟨a, b, xs, ys, ex, hqx, hqy, q⟩ := q1
  subst ex
  cases r1 with
  | cons r rr =>
    cases rr with
    | cons r' rr =>
      cases rr
      cases r
      cases r'
      obtain ⟨its, rv, p1, _⟩ := I1.list hqx
      obtain ⟨its2, rv2, p2, _⟩ := I1.list hqy
      refine call_zip_2 p1.isList p2.isList fun h' hz hTI hTO h1 h2 hsz hk => args_nil ?_
      refine call_enum_zip (s := { s1 with heap := h' }) hz fun g he gs gk => wpAny_pyIter_enum he ?_
      have I2 : Inv X pins σ H1 { s1 with heap := g } := I1.kept (t' := s1.toks) fun c o e => gk c o (hk c o e)
      have sz : h'.objs.size = s1.heap.objs.size + 5 := hsz
      refine ⟨h'.objs.size, [h'.objs.size, s1.heap.objs.size + 4, s1.heap.objs.size + 2, s1.heap.objs.size + 3, s1.heap.objs.size, s1.heap.objs.size + 1], _, _, H1, rfl, I2, turn_enumzip (PySem.W.ktu_apart s1.heap.objs.size a b p1.lt p2.lt) (fun c hc => ?_), ⟨⟨_, he⟩, ⟨_, _, gk _ _ hz, .inl rfl⟩, gk _ _ hTI, ⟨_, _, gk _ _ hTO⟩, h1.at fun o q => gk _ _ q, h2.at fun o q => gk _ _ q⟩, fun c hcm => ?_, q⟩
      · have e' : c = s1.heap.objs.size + 4 ∨ c = s1.heap.objs.size + 2 ∨ c = s1.heap.objs.size + 3 ∨ c = s1.heap.objs.size ∨ c = s1.heap.objs.size + 1 := by simpa using hc
        intro z
        have z' : h'.objs.size = c := z
        rcases e' with q | q | q | q | q <;> rw [q, sz] at z' <;> exact absurd z' (by omega)
      · have e' : c = h'.objs.size ∨ c = s1.heap.objs.size + 4 ∨ c = s1.heap.objs.size + 2 ∨ c = s1.heap.objs.size + 3 ∨ c = s1.heap.objs.size ∨ c = s1.heap.objs.size + 1 := by simpa using hcm
        have hle : s1.heap.objs.size ≤ c := by
          rcases e' with q | q | q | q | q | q <;> rw [q] <;> first | exact Nat.le_refl _ | exact Nat.le_add_right _ _ | (rw [sz]; exact Nat.le_add_right _ _)
        exact I1.fpOk hle (I1.hok.fresh hle)
section
variable {K : PySem.W.Frag} {H0 H H' : Hp} {T : List (Addr × Str)} {L L' L1 : List Cell} {a b : Addr} {xs ys : List V} {σ : L2.St} {s : TS} {D : Ends} {g : TG} {t : TA}
def ItEZ (K : PySem.W.Frag) (vs : List V) (H : Hp) (R : It → Hp → Prop) : Prop := ∃ a b xs ys, vs = [.ref a, .ref b] ∧ SqL K H a xs ∧ SqL K H b ys ∧ R (Itez K a b) H
theorem s_iEZ {R : It → Hp → Prop} (k : t σ H fun vs H1 => ItEZ K vs H1 R) : iEnumZip K t σ H R := k
theorem s_itEZ {R : It → Hp → Prop} (h1 : SqL K H a xs) (h2 : SqL K H b ys) (k : R (Itez K a b) H) : ItEZ K [.ref a, .ref b] H R := ⟨a, b, xs, ys, rfl, h1, h2, k⟩
/-- for i, (x, y) in enumerate(zip(xs, ys)): as far as the shorter one goes -/
theorem s_forEZ {k0 k1 k2 : Nat} (Pv : Nat → L2.St → List Cell → Prop) (xs ys : List V) (B : Own H0 H T L) (start : Pv 0 σ L) (stays : ∀ i σ L H, Pv i σ L → Own H0 H T L → SqL K H a xs ∧ SqL K H b ys)
    (turn : ∀ i x y σ L H, xs[i]? = some x → ys[i]? = some y → Pv i σ L → Own H0 H T L → s { D with nx := Inn H0 T (Pv (i + 1)), ct := Inn H0 T (Pv (i + 1)), bk := D.nx } (((σ.set k0 (some (.int (i : Int)))).set k1 (some x)).set k2 (some y)) H)
    (last : ∀ σ L H, Pv (min xs.length ys.length) σ L → Own H0 H T L → D.nx σ H) : ForG (Itez K a b) (gTup K 2 (gCons (gName k0) (gCons (gTup K 2 (gCons (gName k1) (gCons (gName k2) gNil))) gNil))) s D σ H := by
  refine ⟨fun i m σ H => m = min xs.length ys.length - i ∧ i ≤ min xs.length ys.length ∧ Inn H0 T (Pv i) σ H, ⟨_, rfl, Nat.zero_le _, L, start, B⟩, ?_⟩
  rintro i m σ H ⟨rfl, le, M, h, C⟩
  obtain ⟨s1, s2⟩ := stays i σ M H h C
  rcases Nat.lt_or_ge i (min xs.length ys.length) with lt | ge
  · have a1 : xs[i]? = some (xs[i]'(by omega)) := List.getElem?_eq_getElem (by omega)
    have a2 : ys[i]? = some (ys[i]'(by omega)) := List.getElem?_eq_getElem (by omega)
    refine Or.inr ⟨⟨xs, ys, _, _, s1, s2, a1, a2⟩, Inn H0 T (Pv (i + 1)), fun σ' H' p => ⟨_, by omega, rfl, lt, p⟩, ?_⟩
    rintro v H' ⟨t1, t2, x, y, rfl, n1, n2, rfl, f1, f2⟩
    have ne : t1 ≠ t2 := fun z => by rw [z, upd_same] at n2; cases n2
    refine ⟨t2, _, rfl, SqT.of upd_same, rfl, ?_⟩
    refine ⟨_, _, rfl, _, _, rfl, ⟨t1, [x, y], rfl, SqT.of (by rw [upd_ne ne, upd_same]), rfl, ?_⟩⟩
    refine ⟨_, _, rfl, _, _, rfl, rfl, ?_⟩
    refine ⟨rfl, ?_⟩
    exact turn i x y σ M _ (f1 xs s1) (f2 ys s2) h ((C.new (o := .tup [x, y]) n1 trivial).new (o := .tup [.int (i : Nat), .ref t1]) n2 trivial).tail.tail
  · have e : i = min xs.length ys.length := by omega
    subst e
    exact Or.inl ⟨⟨xs, ys, s1, s2, by omega⟩, last σ M H h C⟩
end
end My
namespace My
open PySem PySem.Spec PyProof.Rows L2 LamX
/-! min(rows, key=lambda row: row[0]), the rows lists -/
theorem first_callL {prog : Program} {w : World} {A : Around} {s : Shared} {f c' t : Addr} {q nm : Str} {params : Arguments} {scope : Scope} {pm ctv : Value} {p1 p2 p3 : Pos} {jj : Nat}
    {its : Array Value} {z : Int} {tz : Tok} (room : A.depth < recursionLimit) (nl : s.heap.NoLimit)
    (hf : s.heap.get? f = some (PySem.W.kla_obj "<lambda>" q params (.Subscript (.Name nm p1) (.Constant (.int 0) jj p2) p3) scope [] pm c' ctv))
    (hc : ∃ (oc : Obj) (vs : Array Value) (tq : Tok), s.heap.get? c' = some oc ∧ oc.data = .fields vs ∧ vs[1]? = some (.str q tq))
    (kk : scope.kind = .function) (k2 : scope.isCoroutine = false) (k3 : scope.isGenerator = false) (names : scope.names = [(nm, .local)])
    (hd : (nm == ("__debug__" : Str)) = false)
    (hbind : ∀ (q : Str) (cl : List (Str × Addr)) (pm cv ctv v : Value), bindArgs (PySem.W.kla_fn "<lambda>" q params (.Subscript (.Name nm p1) (.Constant (.int 0) jj p2) p3) scope cl pm cv ctv) ⟨[v], []⟩ = pure [(nm, v)])
    (ht : s.heap.IsList t its) (h0 : its[0]? = some (.int z tz)) {Q : Value → Shared → Prop} {E : Value → Shared → Prop}
    (fin : ∀ h' tk, s.toks ≤ tk → (∀ b o, s.heap.get? b = some o → h'.get? b = some o) → Q (.int z tz) { s with heap := h', toks := tk }) :
    wpAny (model prog w) A (call (.ref f) [.ref t]) Q E s := by
  obtain ⟨oc, vs, tq, c1, c2, c3⟩ := hc
  refine wpAny_call (PySem.W.kla_callFunE room hf rfl k2 k3 rfl ⟨c', oc, vs, tq, rfl, c1, c2, c3⟩ ?_)
  rw [hbind]
  refine wpAny_pure (wpAny_newFunctionEnv ?_ ?_ ?_ kk)
  · intro x hx z
    rw [names] at hx
    have e : x = (nm, .local) := by simpa using hx
    rw [e] at z
    cases z
  · intro x hx
    have e : x = (nm, .ref t) := by simpa using hx
    rw [e, names]
    simp
  intro h1 hns hsb
  have kp : ∀ b o, s.heap.get? b = some o → h1.get? b = some o := fun b o e => hsb.extBut b o (Nat.ne_of_lt (Heap.lt_size e)) (Heap.get?_push_of_some _ e)
  refine ⟨nl.fresh _ hsb, PySem.W.kla_codeExpr ?_⟩
  have look : ([(nm, Value.ref t)] : List (Str × Value)).reverse.lookup nm = some (.ref t) := by simp
  refine Subscript_ (wpAny_Name (wpAny_loadName_local kk (by show scope.names.lookup nm = some .local; rw [names]; simp) hns look ?_) hd)
  refine wpAny_Constant_int ?_
  have ht1 : h1.IsList t its := ht.at fun o e => kp t o e
  exact subscriptTail_builtinR (x := .int z tz) ht1.typeIs slot_list_getitem.lookup (wpAny_getItem_list (Q := fun r s' => r = .int z tz ∧ Q r s') ht1 (by decide) (by decide) h0 ⟨rfl, fin h1 _ (by show s.toks ≤ _; simp only []; omega) kp⟩)
theorem walkS_list {prog : Program} {w : World} {A : Around} (hh : A.handled = none) (I l : Addr) (hne : l ≠ I) (items : Array Value) :
    WalksS prog w A I [I, l] [I] Eq items.size (fun i v => items[i]? = some v) (fun i s => s.heap.IsListIter I l i ∧ s.heap.IsList l items) where
  sub := fun b hb => by simp at hb; simp [hb]
  grefl := fun _ => rfl
  gtrans := fun _ _ _ h1 h2 => h1.trans h2
  frame := fun _ _ _ _ st _ hk => ⟨st.1.at fun o e => hk I (by simp) o e, st.2.at fun o e => hk l (by simp) o e⟩
  item := fun i s Q E hi st hQ => wpAny_pyNext_list_item st.1 st.2 (x := items[i]) (by simp [hi]) fun h' it' sb =>
    hQ _ _ (by simp [hi]) ⟨it', st.2.extBut sb.extBut hne⟩ ⟨fun b o hb e => sb.extBut b o (fun z => hb (by simp [z])) e, rfl, rfl, rfl, Nat.le_refl _⟩
  done := fun s Q E st hQ => wpAny_pyNext_list_end hh st.1 st.2 (by simp) fun h' eb => hQ _ ⟨fun b o hb e => eb b o (fun z => hb (by simp [z])) e, rfl, rfl, rfl, Nat.le_refl _⟩
  self := fun i s Q E st h => wpAny_pyIter_listiter st.1 h
def tMnk (K : PySem.W.Frag) (T : List (Addr × Str)) (ta : TA) : TE := fun sg H Q => ta sg H fun vs H1 => ∃ (a : Addr) (xs : List V) (kf : V → Int), vs = [.ref a] ∧ SqL K H1 a xs ∧ Tabs T H1 ∧ 0 < xs.length ∧
  (∀ v ∈ xs, ∃ t r, v = .ref t ∧ H1 t = some (.lst (.int (kf v) :: r))) ∧ ∀ (v : V) (H2 : Hp), v ∈ xs → (∀ y ∈ xs, kf v ≤ kf y) → ExtN H1 H2 → Tabs T H2 → Q v H2
theorem pe_mnk {X : Cx} {T : List (Addr × Str)} {c P : Addr} {p pos kpos lpos : Pos} {e : Expr} {ta : TA} {params : Arguments} {scope : Scope} {nm : Str} {p1 p2 p3 : Pos} {jj : Nat}
    (hc : X.calm = true) (hg : Gl X "min") (hm : X.mg "min" = none) (ha : PA X [e] ta) (TB : TabB X.base X.mg c P) (hcode : X.env.code = .ref c)
    (hmem : (P, X.env.qual ++ "<lambda>") ∈ T) (hu : ∀ p ∈ T, p.1 = P → p.2 = X.env.qual ++ "<lambda>") (room : Room 2 X.A) (hdef : defaultsOf params X.env = ([], []))
    (kk : scope.kind = .function) (k2 : scope.isCoroutine = false) (k3 : scope.isGenerator = false) (names : scope.names = [(nm, .local)]) (hd : (nm == ("__debug__" : Str)) = false)
    (hbind : ∀ (q : Str) (cl : List (Str × Addr)) (pm cv ctv v : Value), bindArgs (PySem.W.kla_fn "<lambda>" q params (.Subscript (.Name nm p1) (.Constant (.int 0) jj p2) p3) scope cl pm cv ctv) ⟨[v], []⟩ = pure [(nm, v)])
    (he : backTo pos (starEach [e] X.env) = (false, eval e X.env) :: backTo pos (starEach [] X.env) := by rfl) (hpl : (backTo pos (starEach [e] X.env)).any (·.1) = false := by rfl)
    (hall : (backToKw pos (keywordEach [⟨some "key", .Lambda params (.Subscript (.Name nm p1) (.Constant (.int 0) jj p2) p3) scope lpos, kpos⟩] X.env)).all (·.1.isSome) = true := by rfl)
    (hnone : (backToKw pos (keywordEach [⟨some "key", .Lambda params (.Subscript (.Name nm p1) (.Constant (.int 0) jj p2) p3) scope lpos, kpos⟩] X.env)).any (·.1.isNone) = false := by rfl)
    (hks : (backToKw pos (keywordEach [⟨some "key", .Lambda params (.Subscript (.Name nm p1) (.Constant (.int 0) jj p2) p3) scope lpos, kpos⟩] X.env)).filterMap (·.1) = [Str.ofString "key"] := by rfl) :
    PE X (.Call (.Name "min" p) [e] [⟨some "key", .Lambda params (.Subscript (.Name nm p1) (.Constant (.int 0) jj p2) p3) scope lpos, kpos⟩] pos) (tMnk X.K T ta) := by
  refine ⟨fun pins s sg H Q I want => ?_⟩
  refine wpAny_Call_Name_kw (ld_blt I hg hm (by decide +kernel : bootBuiltins "min" = some (.builtin "min")) ?_)
  refine PyProof.Rows.callWith_kw (thn (ha.run pos pins s sg H _ I want) ?_) he hpl hall hnone
  rintro us s1 ⟨vs, H1, I1, rv, a, xs, kf, rfl, hq, hT, hpos, hrow, q⟩
  obtain ⟨u, rfl, ru⟩ := rv.one
  have ru' : u = Value.ref a := ru
  subst ru'
  rw [hks]
  show wpAny _ _ (evalAll ((do let v ← eval (.Lambda params (.Subscript (.Name nm p1) (.Constant (.int 0) jj p2) p3) scope lpos) X.env; standAt pos; pure v) :: [])) _ _ s1
  refine wpAny_evalAll_cons (wpAny_bind ?_)
  have nofree : ∀ y ∈ scope.names, y.2 = .free → ∃ c, X.env.cells.lookup y.1 = some c := by
    intro y hy z
    rw [names] at hy
    have ey : y = (nm, .local) := by simpa using hy
    rw [ey] at z
    cases z
  refine lam_make2 I1 TB hcode hmem hu hT hdef nofree ?_
  intro f c' pm ctv H2 s2 I2 ext T2 hf hfn hfr hco
  refine wpAny_bind (wpAny_standAt (wpAny_pure (wpAny_evalAll_nil ?_)))
  have noclo : cloFrom X.env.cells scope.names [] = [] := by rw [names]; rfl
  rw [noclo] at hf
  have keepL : SqL X.K H2 a xs := xsq ext hq
  have rowAt : ∀ v ∈ xs, ∃ t r, v = .ref t ∧ H2 t = some (.lst (.int (kf v) :: r)) := by
    intro v hv
    obtain ⟨t, r, e1, e2⟩ := hrow v hv
    exact ⟨t, r, e1, xlst ext e2⟩
  obtain ⟨its, rv2, pl, hz⟩ := I2.list keepL
  obtain ⟨⟨oc, ovs, tq, c1, c2, c3⟩, _, _⟩ := I2.hok c' _ hco
  have hlen : its.toArray.size = xs.length := by rw [List.size_toArray, ← rv2.length]
  have nf : ∀ b o, s2.heap.get? b = some o → b ≠ s2.heap.objs.size := fun b o e => Nat.ne_of_lt (Heap.lt_size e)
  have la : a ≠ s2.heap.objs.size := Nat.ne_of_lt pl.lt
  show wpAny _ _ (call (.builtin "min") [.ref a] [(Str.ofString "key", .ref f)]) _ _ s2
  refine call_min_walkK (wpAny_pyIter_list pl.isList ?_)
  refine ⟨s2.heap.objs.size, [s2.heap.objs.size, a], [s2.heap.objs.size], Eq, its.toArray.size, (fun i v => its.toArray[i]? = some v), (fun i s => s.heap.IsListIter s2.heap.objs.size a i ∧ s.heap.IsList a its.toArray),
    fun s' => ∃ h' tk, s' = { s2 with heap := h', toks := tk } ∧ s2.toks ≤ tk ∧ ∀ b o, s2.heap.get? b = some o → h'.get? b = some o, fun i k _ => ∃ t, k = .int (kf (xs.getD i .non)) t,
    fun i j => decide (kf (xs.getD i .non) < kf (xs.getD j .non)), rfl, walkS_list (A := X.A.in1) (I2.ok.hd hc) s2.heap.objs.size a la its.toArray, ⟨⟨_, Heap.get?_push_size _ rfl, rfl, rfl⟩, pl.isList.at fun o e => Heap.get?_push_of_some _ e⟩, ?_, by rw [hlen]; exact hpos, ?_, ⟨_, _, rfl, Nat.le_refl _, fun b o e => Heap.get?_push_of_some _ e⟩, ?_⟩
  · intro b hb
    have e' : b = s2.heap.objs.size ∨ b = a := by simpa using hb
    show b < (s2.heap.push _).objs.size
    rw [Heap.size_push]
    rcases e' with z | z <;> rw [z]
    · exact Nat.lt_succ_self _
    · exact Nat.lt_succ_of_lt pl.lt
  · refine ⟨?_, fun i k s s' h _ => h, ?_, ?_⟩
    · rintro s s' ⟨h', tk, rfl, hle, kp⟩ mv
      obtain ⟨mh, mg, md, mo, mt⟩ := mv
      refine ⟨s'.heap, s'.toks, ?_, Nat.le_trans hle mt, fun b o e => mh b o (fun z => ?_) (kp b o e)⟩
      · cases s'
        simp only [Shared.mk.injEq, true_and] at mg md mo ⊢
        exact ⟨mg.symm, md, mo⟩
      · have hlt := Heap.lt_size e
        have z' : b = (s2.heap.push { cls := .type "list_iterator", data := .fields #[.ref a, .int 0 0] }).objs.size ∨ b = s2.heap.objs.size := by simpa using z
        rw [Heap.size_push] at z'
        rcases z' with z | z
        · rw [z] at hlt; exact Nat.lt_irrefl _ (Nat.lt_trans (Nat.lt_succ_self _) hlt)
        · rw [z] at hlt; exact Nat.lt_irrefl _ hlt
    · rintro i v s o Q' E' hi hv ⟨h', tk, rfl, hle, kp⟩ hst hS fin
      have hv2 : its[i]? = some v := by simpa using hv
      have hil : i < xs.length := by rw [← hlen]; exact hi
      obtain ⟨x, hx, rx⟩ : ∃ x, xs[i]? = some x ∧ RelV x v := by
        refine ⟨xs[i], List.getElem?_eq_getElem hil, ?_⟩
        obtain ⟨u, hu, ru⟩ := rv2.get (List.getElem?_eq_getElem hil)
        rw [hv2] at hu
        cases hu
        exact ru
      obtain ⟨t, r, rfl, hrt⟩ := rowAt x (List.mem_of_getElem? hx)
      have ev : v = Value.ref t := rx
      subst ev
      obtain ⟨its2, rv3, pt, _⟩ := I2.list (SqL.of hrt)
      obtain ⟨u0, hu0, ru0⟩ := rv3.get (i := 0) rfl
      obtain ⟨tz, rfl⟩ := ru0
      refine first_callL (s := { s2 with heap := h', toks := tk }) ?_ (I2.nolimit.keeps kp) (kp _ _ hf) ⟨oc, ovs, tq, kp _ _ c1, c2, c3⟩ kk k2 k3 names hd hbind (its := its2.toArray) (z := kf (.ref t)) (tz := tz) (pt.isList.at fun o e => kp _ o e) (by simpa using hu0) fun g tk2 hle2 kp2 => ?_
      · have h1 := room.dp
        show X.A.in1.depth < recursionLimit
        have h2 : X.A.in1.depth = X.A.depth := rfl
        omega
      · refine fin _ _ ⟨g, tk2, rfl, Nat.le_trans hle hle2, fun b o e => kp2 b o (kp b o e)⟩ ?_ (kp2 _ _ hS) ⟨tz, ?_⟩ fun j k' h => h
        · exact ⟨hst.1.at fun o e => kp2 _ o e, hst.2.at fun o e => kp2 _ o e⟩
        · have e1 : xs.getD i .non = .ref t := by rw [List.getD_eq_getElem?_getD, hx]; rfl
          rw [e1]
    · rintro i j ki kj s Q' E' _ ⟨t1, rfl⟩ ⟨t2, rfl⟩ h
      exact wpAny_lt_int h
  · rintro v s' hv ⟨h', tk, rfl, hle, kp⟩
    obtain ⟨b1, b2⟩ := argBest_lt (fun i => kf (xs.getD i .non)) (its.toArray.size - 1)
    rw [hlen] at b1 b2 hv
    have hil : argBest (fun i j => decide (kf (xs.getD i .non) < kf (xs.getD j .non))) (xs.length - 1) < xs.length := by omega
    obtain ⟨x, hx, rx⟩ : ∃ x, xs[argBest (fun i j => decide (kf (xs.getD i .non) < kf (xs.getD j .non))) (xs.length - 1)]? = some x ∧ RelV x v := by
      refine ⟨_, List.getElem?_eq_getElem hil, ?_⟩
      obtain ⟨u, hu, ru⟩ := rv2.get (List.getElem?_eq_getElem hil)
      have hv2 : its[argBest (fun i j => decide (kf (xs.getD i .non) < kf (xs.getD j .non))) (xs.length - 1)]? = some v := by simpa using hv
      rw [hv2] at hu
      cases hu
      exact ru
    have I3 : Inv X pins sg H2 { s2 with heap := h', toks := tk } := I2.kept kp
    refine ⟨x, H2, I3, rx, q x H2 (List.mem_of_getElem? hx) (fun y hy => ?_) ext T2⟩
    obtain ⟨j, hj⟩ := List.mem_iff_getElem?.mp hy
    have hjl := (List.getElem?_eq_some_iff.mp hj).1
    have h1 := b2 j (by omega)
    have e1 : xs.getD j .non = y := by rw [List.getD_eq_getElem?_getD, hj]; rfl
    have e2 : xs.getD (argBest (fun i j => decide (kf (xs.getD i .non) < kf (xs.getD j .non))) (xs.length - 1)) .non = x := by rw [List.getD_eq_getElem?_getD, hx]; rfl
    rw [e1, e2] at h1
    exact h1
end My
namespace My
open PySem PySem.Spec PyProof.Rows L2 LamX
/-! over a tuple -/
section
variable {K : PySem.W.Frag} {H0 H H' : Hp} {T : List (Addr × Str)} {L L' : List Cell} {a p : Addr} {σ : L2.St} {Q : VK} {kx : Nat} {vs : List Nat} {tt : TT} {te : TE} {xs : List V} {g : TG} {s : TS} {D : Ends} {x y : V}
def ItT (K : PySem.W.Frag) (x : V) (H : Hp) (R : It → Hp → Prop) : Prop := ∃ a, x = .ref a ∧ (∃ xs, SqT K H a xs) ∧ R (Itt K a) H
theorem s_iTup {R : It → Hp → Prop} (k : te σ H fun x H1 => ItT K x H1 R) : iTup K te σ H R := k
theorem s_itT {R : It → Hp → Prop} (h : H a = some (.tup xs)) (k : R (Itt K a) H) : ItT K (.ref a) H R := ⟨a, rfl, ⟨_, SqT.of h⟩, k⟩
theorem s_forT (Pv : Nat → L2.St → List Cell → Prop) (xs : List V) (B : Own H0 H T L) (start : Pv 0 σ L) (stays : ∀ i σ L H, Pv i σ L → Own H0 H T L → SqT K H a xs)
    (turn : ∀ i x σ L H, xs[i]? = some x → Pv i σ L → Own H0 H T L → g x σ H fun σ2 H2 => s { D with nx := Inn H0 T (Pv (i + 1)), ct := Inn H0 T (Pv (i + 1)), bk := D.nx } σ2 H2)
    (last : ∀ σ L H, Pv xs.length σ L → Own H0 H T L → D.nx σ H) : ForG (Itt K a) g s D σ H :=
  for_tup (K := K) (a := a) (xs := xs) (fun i => Inn H0 T (Pv i)) ⟨L, start, B⟩ (fun i σ H _ ⟨L, h, B⟩ => stays i σ L H h B) (fun i x σ H hx ⟨L, h, B⟩ => turn i x σ L H hx h B) (fun σ H ⟨L, h, B⟩ => last σ L H h B)
theorem s_lcT (Pv : Nat → List V → List Cell → Prop) (xs : List V) (B : Own H0 H T L) (start : Pv 0 [] L) (stays : ∀ i acc L H, Pv i acc L → Own H0 H T L → SqT K H a xs)
    (wp : ∀ x : V, wipe ((wipe σ vs).set kx (some x)) vs = wipe σ vs)
    (turn : ∀ D i x acc L H, xs[i]? = some x → Pv i acc L → Own H0 H T (.ob D (.lst acc) :: L) → tt ((wipe σ vs).set kx (some x)) H fun b H3 =>
      if b = true then te ((wipe σ vs).set kx (some x)) H3 fun y H4 => ∃ acc, H4 D = some (.lst acc) ∧ acc.length < sizeLine ∧ NoEl H0 T D (Pv (i + 1)) (upd H4 D (.lst (acc ++ [y]))) else NoEl H0 T D (Pv (i + 1)) H3)
    (last : ∀ D acc L H, Pv xs.length acc L → Own H0 H T (.ob D (.lst acc) :: L) → Q (.ref D) H) : LcG (Itt K a) (gName kx) tt te vs σ Q H := fun D nD =>
  lc_tup (K := K) (a := a) (xs := xs) (fun i => NoEl H0 T D (Pv i)) ⟨[], L, B.new nD trivial, start⟩ (fun i H _ ⟨acc, L, B, h⟩ => stays i acc L H h B.tail)
    (fun i x H hx ⟨acc, L, B, h⟩ => ⟨wp x, turn D i x acc L H hx h B⟩) (fun H ⟨acc, L, B, h⟩ => last D acc L H h B)
/-- xs.pop() -/
theorem s_popE (B : Own H0 H T L) [P : Pull L a (.ob a (.lst xs)) L'] (h : xs[xs.length - 1]? = some y) (k : ∀ H', Own H0 H' T (.ob a (.lst xs.dropLast) :: L') → Q y H') : rPop (.ref a) [] H Q :=
  ⟨a, xs, y, rfl, rfl, B.get a, h, k _ ((B.pull a).wr trivial)⟩
end
/-! min(xs, default=d), the members ints -/
def tMnd (K : PySem.W.Frag) (d : Int) (ta : TA) : TE := fun sg H Q => ta sg H fun vs H1 => ∃ (a : Addr) (ns : List Int), vs = [.ref a] ∧ SqL K H1 a (ns.map V.int) ∧ (ns = [] → Q (.int d) H1) ∧ ∀ m ∈ ns, (∀ y ∈ ns, m ≤ y) → Q (.int m) H1
def MndAt (K : PySem.W.Frag) (d : Int) (vs : List V) (H1 : Hp) (Q : VK) : Prop := ∃ (a : Addr) (ns : List Int), vs = [.ref a] ∧ SqL K H1 a (ns.map V.int) ∧ (ns = [] → Q (.int d) H1) ∧ ∀ m ∈ ns, (∀ y ∈ ns, m ≤ y) → Q (.int m) H1
theorem s_mndS {K : PySem.W.Frag} {d : Int} {ta : TA} {sg : L2.St} {H : Hp} {Q : VK} (k : ta sg H fun vs H1 => MndAt K d vs H1 Q) : tMnd K d ta sg H Q := k
theorem s_mnd {K : PySem.W.Frag} {d : Int} {H : Hp} {Q : VK} {a : Addr} {ns : List Int} (h : H a = some (.lst (ns.map V.int))) (h0 : ns = [] → Q (.int d) H) (h1 : ∀ m ∈ ns, (∀ y ∈ ns, m ≤ y) → Q (.int m) H) : MndAt K d [.ref a] H Q := ⟨a, ns, rfl, SqL.of h, h0, h1⟩
theorem minI : ∀ (ns : List Int) (n : Int), ns.foldl min n ∈ n :: ns ∧ ∀ y ∈ n :: ns, ns.foldl min n ≤ y
  | [], n => ⟨List.mem_cons_self .., fun y hy => by rw [List.mem_singleton.mp hy]; exact Int.le_refl _⟩
  | k :: ns, n => by
    obtain ⟨h1, h2⟩ := minI ns (min n k)
    rw [List.foldl_cons]
    have hm := h2 (min n k) (List.mem_cons_self ..)
    refine ⟨?_, fun y hy => ?_⟩
    · rcases List.mem_cons.mp h1 with h | h
      · rcases Int.le_total n k with e | e
        · rw [h, Int.min_eq_left e]; exact List.mem_cons_self ..
        · rw [h, Int.min_eq_right e]; exact List.mem_cons_of_mem _ (List.mem_cons_self ..)
      · exact List.mem_cons_of_mem _ (List.mem_cons_of_mem _ h)
    · rcases List.mem_cons.mp hy with h | h
      · rw [h]; exact Int.le_trans hm (Int.min_le_left ..)
      · rcases List.mem_cons.mp h with h' | h'
        · rw [h']; exact Int.le_trans hm (Int.min_le_right ..)
        · exact h2 y (List.mem_cons_of_mem _ h')
theorem pe_mnd {X : Cx} {p pos kpos cpos : Pos} {e : Expr} {ta : TA} {d : Int} {kk : _}
    (hc : X.calm = true) (hg : Gl X "min") (hm : X.mg "min" = none) (ha : PA X [e] ta) (hun : X.A.units + 65 < cLine)
    (he : backTo pos (starEach [e] X.env) = (false, eval e X.env) :: backTo pos (starEach [] X.env) := by rfl) (hpl : (backTo pos (starEach [e] X.env)).any (·.1) = false := by rfl)
    (hall : (backToKw pos (keywordEach [⟨some "default", .Constant (.int d) kk cpos, kpos⟩] X.env)).all (·.1.isSome) = true := by rfl)
    (hnone : (backToKw pos (keywordEach [⟨some "default", .Constant (.int d) kk cpos, kpos⟩] X.env)).any (·.1.isNone) = false := by rfl)
    (hks : (backToKw pos (keywordEach [⟨some "default", .Constant (.int d) kk cpos, kpos⟩] X.env)).filterMap (·.1) = [Str.ofString "default"] := by rfl) :
    PE X (.Call (.Name "min" p) [e] [⟨some "default", .Constant (.int d) kk cpos, kpos⟩] pos) (tMnd X.K d ta) := by
  refine ⟨fun pins s sg H Q I want => ?_⟩
  refine wpAny_Call_Name_kw (ld_blt I hg hm (by decide +kernel : bootBuiltins "min" = some (.builtin "min")) ?_)
  refine PyProof.Rows.callWith_kw (thn (ha.run pos pins s sg H _ I want) ?_) he hpl hall hnone
  rintro us s1 ⟨vs, H1, I1, rv, a, ns, rfl, hq, q0, q1⟩
  obtain ⟨u, rfl, ru⟩ := rv.one
  have ru' : u = Value.ref a := ru
  subst ru'
  rw [hks]
  show wpAny _ _ (evalAll ((do let v ← eval (.Constant (.int d) kk cpos) X.env; standAt pos; pure v) :: [])) _ _ s1
  refine wpAny_evalAll_cons (wpAny_bind ?_)
  refine wpAny_Constant_int ?_
  refine wpAny_bind (wpAny_standAt (wpAny_pure (wpAny_evalAll_nil ?_)))
  have I2 : Inv X pins sg H1 { s1 with toks := s1.toks + 1 } := I1.tok _
  obtain ⟨its, rv2, pl, hz⟩ := I2.list hq
  obtain ⟨as, ra⟩ := Dp.readsAll I2 _ _ _ (dpAll_ints ns) rv2
  show wpAny _ _ (call (.builtin "min") [.ref a] [(Str.ofString "default", .int d s1.toks)]) _ _ _
  have hd := dep_ints ns
  refine PySem.W.min_list_default (vs := its.toArray) (xs := ns.map PyData.int) (as := as) (I2.ok.hd hc) pl.isList (by simpa using ra) ⟨fun x hx y hy => ?_, fun x hx => ?_⟩ (by omega) (fun hn h' tk kp => ?_) fun y ys i v h' tk bs e1 hv hr kp => ?_
  · obtain ⟨e1, _, rfl⟩ := List.mem_map.mp hx
    obtain ⟨e2, _, rfl⟩ := List.mem_map.mp hy
    simp [PySem.W.alike]
  · obtain ⟨e1, _, rfl⟩ := List.mem_map.mp hx
    exact fun z => nomatch z
  · have I3 : Inv X pins sg H1 { { s1 with toks := s1.toks + 1 } with heap := h', toks := tk } := I2.kept kp
    exact ⟨.int d, H1, I3, ⟨_, rfl⟩, q0 (List.map_eq_nil_iff.mp hn)⟩
  · have I3 : Inv X pins sg H1 { { s1 with toks := s1.toks + 1 } with heap := h', toks := tk } := I2.kept kp
    cases ns with
    | nil => cases e1
    | cons n ns =>
      rw [List.map_cons] at e1
      cases e1
      rw [PySem.W.minD_ints] at hr
      obtain ⟨m1, m2⟩ := minI ns n
      generalize ns.foldl min n = m at hr m1 m2
      refine ⟨.int m, H1, I3, ?_, q1 m m1 m2⟩
      cases hr
      exact ⟨_, rfl⟩
/-! xs.remove(x), x a member -/
abbrev W0 : WX := fun _ _ _ _ => False
theorem pe_rem {X : Cx} {o e : Expr} {to te : TE} {apos cpos : Pos} (hc : X.calm = true) (ho : PE X o to) (he : PE X e te) (hbase : attributeBase o "remove" X.env (eval o X.env) = eval o X.env := by rfl)
    (hfew : ((backTo cpos (starEach [e] X.env)).all (fun x => !x.1) && (backToKw cpos (keywordEach [] X.env)).all (fun x => x.1.isSome)
      && decide (([e] : List Expr).length + ([] : List Keyword).length + (if ([] : List Keyword).isEmpty then 0 else 1) < 30)) = true := by rfl)
    (hline : (apos.endLine == cpos.line) = true := by rfl) (hs : starEach [e] X.env = (false, eval e X.env) :: starEach [] X.env := by rfl) (hplain : (backTo cpos (starEach [] X.env)).any (·.1) = false := by rfl) :
    PE X (.Call (.Attribute o "remove" apos) [e] [] cpos) (tRemX X.K W0 to te) :=
  pe_remX hc (fun u s' ⟨a, B, sI, pins, σ, H, cls, d, e, I, nb, up, sky, na, os, ag, w⟩ => w.elim) ho he hbase hfew hline hs hplain
def RemAt (x y : V) (σ : L2.St) (H2 : Hp) (Q : VK) : Prop := ∃ (l : Addr) (ns : List Int) (k : Int), x = .ref l ∧ y = .int k ∧ H2 l = some (.lst (ns.map V.int)) ∧
  (k ∈ ns → Q .non (upd H2 l (.lst ((ns.erase k).map V.int)))) ∧ (k ∉ ns → ∀ d, W0 (.type "ValueError") d σ H2)
section
variable {K : PySem.W.Frag} {H0 H : Hp} {T : List (Addr × Str)} {L L' : List Cell} {a : Addr} {σ : L2.St} {Q : VK} {ns : List Int} {x : Int} {to te : TE}
theorem s_remS (k : to σ H fun x H1 => tyV K "list" x H1 ∧ te σ H1 fun y H2 => RemAt x y σ H2 Q) : tRemX K W0 to te σ H Q := k
theorem s_rem (B : Own H0 H T L) [P : Pull L a (.ob a (.lst (ns.map V.int))) L'] (hx : x ∈ ns) (k : ∀ H', Own H0 H' T (.ob a (.lst ((ns.erase x).map V.int)) :: L') → Q .non H') : RemAt (.ref a) (.int x) σ H Q :=
  ⟨a, ns, x, rfl, rfl, B.get a, fun _ => k _ ((B.pull a).wr trivial), fun h => absurd hx h⟩
end
/-! [x for q in family for x in q] -/
def Lc2G (J : It) (g : TG) (tt : TT) (wi1 : TI) (g1 : TG) (tt1 : TT) (te : TE) (vs vs1 : List Nat) (σ : L2.St) (Q : VK) (H1 : Hp) : Prop := ∀ D, H1 D = none → ∃ W : Nat → Nat → Hp → Prop, (∃ m, W 0 m (upd H1 D (.lst []))) ∧ ∀ i m H, W i m H →
  (J.stop i H ∧ Q (.ref D) H) ∨ (J.go i H ∧ ∃ Nx : Hp → Prop, (∀ H', Nx H' → ∃ m', m' < m ∧ W (i + 1) m' H') ∧ ∀ x H', J.yld i H x H' → g x (wipe σ vs) H' fun σ2 H2 => wipe σ2 vs = wipe σ vs ∧ tt σ2 H2 fun b H3 =>
    if b = true then wi1 σ2 H3 fun J1 H4 => ∃ W1 : Nat → Nat → Hp → Prop, (∃ m, W1 0 m H4) ∧ ∀ j k H, W1 j k H →
      (J1.stop j H ∧ Nx H) ∨ (J1.go j H ∧ ∃ Nx1 : Hp → Prop, (∀ H', Nx1 H' → ∃ k', k' < k ∧ W1 (j + 1) k' H') ∧ ∀ x H', J1.yld j H x H' → g1 x (wipe σ2 vs1) H' fun σ3 H5 => wipe σ3 vs1 = wipe σ2 vs1 ∧ tt1 σ3 H5 fun b H6 =>
        if b = true then te σ3 H6 fun y H7 => ∃ acc, H7 D = some (.lst acc) ∧ acc.length < sizeLine ∧ Nx1 (upd H7 D (.lst (acc ++ [y]))) else Nx1 H6)
    else Nx H3)
section
variable {K : PySem.W.Frag} {H0 H : Hp} {T : List (Addr × Str)} {L L' : List Cell} {p : Addr} {qs : List Addr} {fam : List (List Int)} {σ : L2.St} {Q : VK} {kq kx : Nat} {vs vs1 : List Nat} {wi wi1 : TI} {g g1 : TG} {tt tt1 : TT} {te : TE}
theorem s_lc2S (k : wi σ H fun J H1 => Lc2G J g tt wi1 g1 tt1 te vs vs1 σ Q H1) : tLc2 wi g tt wi1 g1 tt1 te vs vs1 σ H Q := k
theorem s_lcFlat (B : Own H0 H T L) (ft : ∀ H', Own H0 H' T L → H' p = some (.lst (qs.map V.ref))) (fr : ∀ H', Own H0 H' T L → Rws H' qs (vv fam)) (hlq : qs.length = fam.length) (hz : fam.flatten.length ≤ 100000)
    (wp : ∀ x : V, wipe ((wipe σ vs).set kq (some x)) vs = wipe σ vs) (gq : ∀ x : V, ((wipe σ vs).set kq (some x))[kq]? = some (some x))
    (wp1 : ∀ x y : V, wipe ((wipe ((wipe σ vs).set kq (some x)) vs1).set kx (some y)) vs1 = wipe ((wipe σ vs).set kq (some x)) vs1) (gx : ∀ x y : V, ((wipe ((wipe σ vs).set kq (some x)) vs1).set kx (some y))[kx]? = some (some y))
    (last : ∀ D H', Own H0 H' T (.ob D (.lst (fam.flatten.map V.int)) :: L) → Q (.ref D) H') : Lc2G (Itl K p) (gName kq) tYes (iList K (tVar kq)) (gName kx) tYes (tVar kx) vs vs1 σ Q H := by
  intro D nD
  refine ⟨fun i m H' => m = qs.length - i ∧ i ≤ qs.length ∧ Own H0 H' T (.ob D (.lst (((fam.take i).flatten).map V.int)) :: L), ⟨qs.length, rfl, Nat.zero_le _, B.new nD trivial⟩, ?_⟩
  rintro i m H' ⟨em, le, B⟩
  have top := ft _ B.tail
  rcases Nat.lt_or_ge i qs.length with lt | ge
  · have hq : qs[i]? = some qs[i] := List.getElem?_eq_getElem lt
    have ef : fam[i]? = some (fam[i]'(by omega)) := List.getElem?_eq_getElem _
    generalize fam[i]'(by omega) = f2 at ef
    have hf := (fr _ B.tail).get i _ _ hq (vv_get ef)
    refine Or.inr ⟨⟨_, .ref qs[i], SqL.of top, by rw [List.getElem?_map, hq]; rfl⟩, fun H' => Own H0 H' T (.ob D (.lst (((fam.take (i + 1)).flatten).map V.int)) :: L), fun H' e => ⟨qs.length - (i + 1), by omega, rfl, lt, e⟩, ?_⟩
    rintro x H' ⟨rfl, fx⟩
    have ex : x = .ref qs[i] := by
      have z := fx _ (SqL.of top)
      rw [List.getElem?_map, hq] at z
      exact (Option.some.inj z).symm
    subst ex
    refine ⟨wp _, iteT (B := Own H0 H' T (.ob D (.lst (((fam.take (i + 1)).flatten).map V.int)) :: L)) ?_⟩
    refine ⟨.ref qs[i], gq _, qs[i], rfl, ⟨_, SqL.of hf⟩, ?_⟩
    refine ⟨fun j k H' => k = f2.length - j ∧ j ≤ f2.length ∧ Own H0 H' T (.ob D (.lst (((fam.take i).flatten ++ f2.take j).map V.int)) :: L), ⟨f2.length, rfl, Nat.zero_le _, by rw [List.take_zero, List.append_nil]; exact B⟩, ?_⟩
    rintro j k H' ⟨ek, le2, B⟩
    have hf : H' qs[i] = some (.lst (f2.map V.int)) := (fr _ B.tail).get i _ _ hq (vv_get ef)
    rcases Nat.lt_or_ge j f2.length with lt2 | ge2
    · have hn : f2[j]? = some f2[j] := List.getElem?_eq_getElem lt2
      refine Or.inr ⟨⟨_, .int f2[j], SqL.of hf, by rw [List.getElem?_map, hn]; rfl⟩, fun H' => Own H0 H' T (.ob D (.lst (((fam.take i).flatten ++ f2.take (j + 1)).map V.int)) :: L), fun H' e => ⟨f2.length - (j + 1), by omega, rfl, lt2, e⟩, ?_⟩
      rintro y H' ⟨rfl, fy⟩
      have ey : y = .int f2[j] := by
        have z := fy _ (SqL.of hf)
        rw [List.getElem?_map, hn] at z
        exact (Option.some.inj z).symm
      subst ey
      refine ⟨wp1 _ _, iteT (B := Own H0 H' T (.ob D (.lst (((fam.take i).flatten ++ f2.take (j + 1)).map V.int)) :: L)) ?_⟩
      refine ⟨.int f2[j], gx _ _, _, B.get D, ?_, ?_⟩
      · have h1 := congrArg (fun z => z.flatten.length) (List.take_append_drop (i + 1) fam)
        simp only [List.flatten_append, List.length_append] at h1
        have h2 : (fam.take (i + 1)).flatten = (fam.take i).flatten ++ f2 := by rw [List.take_add_one, ef, List.flatten_append]; simp
        rw [h2, List.length_append] at h1
        rw [List.length_map, List.length_append, List.length_take]
        unfold sizeLine; omega
      · have e : ((fam.take i).flatten ++ f2.take j).map V.int ++ [V.int f2[j]] = ((fam.take i).flatten ++ f2.take (j + 1)).map V.int := by
          rw [List.take_add_one, hn, ← List.append_assoc, List.map_append (l₁ := (fam.take i).flatten ++ f2.take j)]; rfl
        rw [e]
        exact (B.wr trivial)
    · refine Or.inl ⟨⟨_, SqL.of hf, by rw [List.length_map]; exact ge2⟩, ?_⟩
      have h2 : (fam.take (i + 1)).flatten = (fam.take i).flatten ++ f2 := by rw [List.take_add_one, ef, List.flatten_append]; simp
      rw [h2]
      rw [List.take_of_length_le ge2] at B
      exact B
  · have e : i = qs.length := by omega
    subst e
    refine Or.inl ⟨⟨_, SqL.of top, by rw [List.length_map]; exact Nat.le_refl _⟩, ?_⟩
    have ef : fam.take qs.length = fam := List.take_of_length_le (by rw [hlq]; exact Nat.le_refl _)
    rw [ef] at B
    exact last D _ B
/-- [list(q) for q in family], the family only read -/
theorem s_lcCopyA (B : Own H0 H T L) (ft : ∀ H', Own H0 H' T L → H' p = some (.lst (qs.map V.ref))) (fr : ∀ H', Own H0 H' T L → Rws H' qs (vv fam)) (hlq : qs.length = fam.length) (hn : fam.length ≤ 100000) (wp : ∀ x : V, wipe ((wipe σ vs).set kx (some x)) vs = wipe σ vs) (wg : ∀ x : V, ((wipe σ vs).set kx (some x))[kx]? = some (some x))
    (last : ∀ c ls H, ls.length = fam.length → Own H0 H T (.fm c ls (vv fam) :: L) → Q (.ref c) H) :
    LcG (Itl K p) (gName kx) tYes (tCB (rLsK K) (tCons (tVar kx) tNil)) vs σ Q H := by
  have hl := hlq
  refine s_lcL (fun i acc M => ∃ ls : List Addr, ls.length = i ∧ acc = ls.map V.ref ∧ M = .rs ls (vv (fam.take i)) :: L) (qs.map V.ref) (Own.rs0 B) ⟨[], rfl, rfl, rfl⟩ ?_ wp ?_ ?_
  · rintro i acc M H ⟨ls, _, _, rfl⟩ B
    exact SqL.of (ft _ B.tail)
  · rintro Dc i x acc M H hx ⟨ls, hls, rfl, rfl⟩ B
    rw [List.getElem?_map] at hx
    obtain ⟨qq, hq, rfl⟩ := Option.map_eq_some_iff.mp hx
    have hi : i < fam.length := by rw [← hlq]; exact (List.getElem?_eq_some_iff.mp hq).1
    have ef : fam[i]? = some (fam[i]'hi) := List.getElem?_eq_getElem _
    generalize fam[i]'hi = f1 at ef
    have hf := (fr _ B.tail.tail).get i _ _ hq (vv_get ef)
    refine s_yes (iteT (s_cb (s_cons (s_var (wg _) (s_nil ?_)))))
    refine s_list B hf fun l H B => ?_
    have B2 : Own H0 H T (.rs (ls ++ [l]) (vv (fam.take i) ++ [f1.map V.int]) :: .ob Dc (.lst (ls.map V.ref)) :: L) := Own.pushR B.arr
    have e2 : vv (fam.take i) ++ [f1.map V.int] = vv (fam.take (i + 1)) := by rw [List.take_add_one, ef, vv_app]; rfl
    rw [e2] at B2
    refine s_el B2 ?_ ⟨ls ++ [l], by rw [List.length_append, hls]; rfl, by rw [List.map_append]; rfl, rfl⟩
    rw [List.length_map, hls]; unfold sizeLine; omega
  · rintro c acc M H ⟨ls, hls, rfl, rfl⟩ B
    have B := B.closeR
    rw [List.length_map, hl] at hls B
    rw [List.take_length] at B
    exact last c ls H hls B
end
end My
namespace My
open PySem PySem.Spec PyProof.Rows L2 LamX
section
variable {K : PySem.W.Frag} {H0 H : Hp} {T : List (Addr × Str)} {L L' : List Cell} {a : Addr} {σ : L2.St} {Q : VK} {xs : List V} {n : Nat}
/-- a, b = a list -/
theorem s_gu {t : TGs} {Qs : L2.St → Hp → Prop} (h : H a = some (.lst xs)) (hl : xs.length = n) (k : t xs σ H Qs) : gUnl K n t (.ref a) σ H Qs := ⟨a, xs, rfl, SqL.of h, hl, k⟩
theorem kit_tt : PySem.W.kitOne K (.type "tuple") (.type "tuple") = some true := kit_ty (by decide +kernel)
theorem s_isTup (h : H a = some (.tup xs)) (k : Q (.bl true) H) : rIsi K [.ref a, .ty "tuple"] H Q := ⟨.ref a, .ty "tuple", .type "tuple", .type "tuple", true, rfl, .ty _, .base (.tup h), kit_tt, k⟩
theorem s_lenT (h : H a = some (.tup xs)) (k : Q (.int (xs.length : Int)) H) : rLenK K [.ref a] H Q := ⟨a, xs, rfl, .inr (SqT.of h), k⟩
end
end My
namespace My
open PySem
/-! list(range(a, b)) beyond the small integers -/
theorem kinds_apart {S r : Addr} {h : Heap} {a b c : Int} {t u v : Tok} {xs : Array Value} {c₀ : Nat} (hr : IsRange h r a b c t u v) (hS : h.get? S = some { cls := .type "list", data := .seq xs c₀ }) : S ≠ r := fun e => by
  rw [e] at hS
  have z := congrArg (Option.map Obj.cls) ((show h.get? r = _ from hr).symm.trans hS)
  exact absurd (Value.type.inj (Option.some.inj z)) (by decide)
section
variable {prog : Program} {w : World} {A : Around} {s : Shared} {r : Addr} {a b c : Int} {t u v : Tok} {n : Nat}
theorem ext_long {R : Result → Shared → Prop} (hh : A.handled = none) (hr : IsRange s.heap r a b c t u v) (big : Builtin.Range.small a b c = false) (hn : Builtin.Range.rangeSize a b c = (n : Int)) (hz : n ≤ 2 ^ 24) (S : Addr) (res : Value) (c₀ : Nat)
    (hS : s.heap.get? S = some { cls := .type "list", data := .seq #[] c₀ })
    (k : ∀ (h' : Heap) (tk : Nat) (acc : Array Value) (c' : Nat), (∀ (x : Addr) (o : Obj), x ≠ S → s.heap.get? x = some o → h'.get? x = some o) → h'.get? S = some { cls := .type "list", data := .seq acc c' } →
      ItemsOf (fun i y => ∃ t, y = .int (a + i * c) t) acc n → R (.ok (.ret res)) { s with heap := h', toks := tk }) :
    wpAny (model prog w) A.in1 (Builtin.List.listExtendWith (.ref S) (.ref r) res) (fun fin s' => match fin with | .done f => R (.ok f) s' | .again c' => c'.quiet = true ∧ codeAny (model prog w) A c' R s') (fun e s' => R (.error e) s') s := by
  have hSr := kinds_apart hr hS
  have hSI : S ≠ s.heap.objs.size := Nat.ne_of_lt (Heap.lt_size hS)
  have W := Walks.toS (Walks.longrange (prog := prog) (w := w) (A := A.in1) hh s.heap.objs.size a c n)
  have go : ∀ (h : Heap) (c1 tk : Nat), IsLongIter h s.heap.objs.size (a + ((0 : Nat) : Int) * c) (n - ((0 : Nat) : Int)) c → (∀ (x : Addr) (o : Obj), x ≠ S → s.heap.get? x = some o → h.get? x = some o) → h.get? S = some { cls := .type "list", data := .seq #[] c1 } →
      codeAny (model prog w) A (.builtin "list.extend.loop" { pos := [.ref S, .ref s.heap.objs.size, res] }) R { s with heap := h, toks := tk } := by
    intro h c1 tk hit hk h1
    refine codeAny_extend_loopS W (by rw [sizeLine_eq]; exact hz) S (fun z => hSI (List.mem_singleton.mp z)) res n 0 _ #[] c1 rfl (Nat.zero_le n) hit h1 (ItemsOf.nil _) fun s' acc c' hm h2 hi => ?_
    rw [Moved.eq_with hm]
    refine k s'.heap s'.toks acc c' (fun x o nx e => hm.heap x o (fun z => ?_) (hk x o nx e)) h2 hi
    rcases List.mem_cons.mp z with z | z
    · exact nx z
    · have := Heap.lt_size e
      rw [List.mem_singleton.mp z] at this
      exact Nat.lt_irrefl _ this
  unfold Builtin.List.listExtendWith
  refine wpAny_bind (wpAny_typeOf ⟨_, hr, rfl⟩ ?_)
  have e1 : Builtin.List.listSameRef (.ref S) (.ref r) = false := by rw [Builtin.List.listSameRef.eq_1]; simp [hSr]
  rw [e1]
  rw [if_neg (by decide)]
  refine wpAny_bind (wpAny_pyIter_longrange hr big ?_)
  refine wpAny_bind (wpAny_holding (wpAny_hint_range (Heap.get?_push_of_some _ hr) hn hz ?_))
  have hit : IsLongIter (s.heap.push { cls := .type "longrange_iterator", data := .fields #[rawInt a, rawInt (Builtin.Range.rangeSize a b c), rawInt c] }) s.heap.objs.size (a + ((0 : Nat) : Int) * c) (n - ((0 : Nat) : Int)) c := by
    rw [hn, show a + ((0 : Nat) : Int) * c = a by simp, show (n : Int) - ((0 : Nat) : Int) = n by simp]
    exact Heap.get?_push_size _ rfl
  have hS1 := Heap.get?_push_of_some { cls := .type "longrange_iterator", data := .fields #[rawInt a, rawInt (Builtin.Range.rangeSize a b c), rawInt c] } hS
  refine wpAny_ite_split (fun _ => ?_) (fun _ => ?_)
  · refine wpAny_bind (wpAny_rule (wpAny_bind ?_))
    unfold Builtin.List.listTouch
    refine wpAny_bind (wpAny_updateSeq hS1 rfl ?_)
    have hS2 := Heap.get?_update_self (Obj.mapSeq fun x => x.push Value.none) hS1 rfl
    refine wpAny_updateSeq hS2 rfl ?_
    have hS3 := Heap.get?_update_self (Obj.mapSeq fun x => x.pop) hS2 rfl
    refine wpAny_pure ⟨plainId_quiet F.plain_extend_loop _, go _ _ _ ?_ (fun x o nx e => ?_) hS3⟩
    · exact (Heap.get?_update_other _ _ hSI).trans ((Heap.get?_update_other _ _ hSI).trans hit)
    · exact (Heap.get?_update_other _ _ (Ne.symm nx)).trans ((Heap.get?_update_other _ _ (Ne.symm nx)).trans (Heap.get?_push_of_some _ e))
  · exact wpAny_pure ⟨plainId_quiet F.plain_extend_loop _, go _ _ _ hit (fun x o _ e => Heap.get?_push_of_some _ e) hS1⟩
theorem init_long {R : Result → Shared → Prop} (hh : A.handled = none) (hr : IsRange s.heap r a b c t u v) (big : Builtin.Range.small a b c = false) (hn : Builtin.Range.rangeSize a b c = (n : Int)) (hz : n ≤ 2 ^ 24) (S : Addr)
    (hS : s.heap.get? S = some { cls := .type "list", data := .seq #[] })
    (k : ∀ (h' : Heap) (tk : Nat) (acc : Array Value) (c' : Nat), (∀ (x : Addr) (o : Obj), x ≠ S → s.heap.get? x = some o → h'.get? x = some o) → h'.get? S = some { cls := .type "list", data := .seq acc c' } →
      ItemsOf (fun i y => ∃ t, y = .int (a + i * c) t) acc n → R (.ok (.ret .none)) { s with heap := h', toks := tk }) :
    wpAny (model prog w) A.in1 (Builtin.«list.__init__» { pos := [.ref S, .ref r] }) (fun fin s' => match fin with | .done f => R (.ok f) s' | .again c' => c'.quiet = true ∧ codeAny (model prog w) A c' R s') (fun e s' => R (.error e) s') s := by
  have hSr := kinds_apart hr hS
  refine id (wpAny_bind (id (wpAny_bind (wpAny_seqItems hS rfl (wpAny_pure (id (wpAny_bind (wpAny_updateSeq hS rfl ?_ ?_ ?_))))))))
  rotate_left
  · rw [sizeLine_eq]; simp
  · rw [sizeLine_eq]; simp
  have hS2 := Heap.get?_update_self (Obj.mapSeq fun _ => #[]) hS rfl
  have oth : ∀ (x : Addr) (o : Obj), x ≠ S → s.heap.get? x = some o → (s.heap.update S (Obj.mapSeq fun _ => #[])).get? x = some o := fun x o nx e => (Heap.get?_update_other _ _ (Ne.symm nx)).trans e
  refine wpAny_bind (wpAny_letGo (ext_long hh (oth r _ (Ne.symm hSr) hr) big hn hz S .none _ hS2 fun h' tk acc c' hk h2 hi => ?_))
  exact k h' tk acc c' (fun x o nx e => hk x o nx (oth x o nx e)) h2 hi
theorem call_list_long {E : Value → Shared → Prop} {Q : Value → Shared → Prop} (hh : A.handled = none) (hr : IsRange s.heap r a b c t u v) (big : Builtin.Range.small a b c = false) (hn : Builtin.Range.rangeSize a b c = (n : Int)) (hz : n ≤ 2 ^ 24)
    (k : ∀ (h' : Heap) (tk : Nat) (acc : Array Value) (c' : Nat), (∀ (x : Addr) (o : Obj), s.heap.get? x = some o → h'.get? x = some o) → h'.get? s.heap.objs.size = some { cls := .type "list", data := .seq acc c' } →
      ItemsOf (fun i y => ∃ t, y = .int (a + i * c) t) acc n → Q (.ref s.heap.objs.size) { s with heap := h', toks := tk }) :
    wpAny (model prog w) A (call (.type "list") [.ref r]) Q E s := by
  refine callType_codes (Q₁ := fun obj s1 => obj = .ref s.heap.objs.size ∧ s1 = { s with heap := s.heap.push { cls := .type "list", data := .seq #[] } }) F.called_list (F.typeCall_list_1 (.ref r)) F.entry_list_init (code_list_new (.ref r) ⟨rfl, rfl⟩) (fun obj s1 h1 => ?_)
  obtain ⟨e1, e2⟩ := h1
  subst e1
  subst e2
  have hS := Heap.get?_push_size (o := ({ cls := .type "list", data := .seq #[] } : Obj)) s.heap rfl
  refine ⟨⟨_, hS, rfl⟩, F.args_list_init_2 _ _, init_long (A := A.in1) (R := wants (fun r s2 => r = .none ∧ Q (.ref s.heap.objs.size) s2) E) hh (Heap.get?_push_of_some _ hr) big hn hz _ hS fun h' tk acc c' hk h2 hi => ⟨rfl, k h' tk acc c' (fun x o e => hk x o (Nat.ne_of_lt (Heap.lt_size e)) (Heap.get?_push_of_some _ e)) h2 hi⟩⟩
end
open PySem.Spec PyProof.Rows L2
def rRng2 : List V → Hp → VK → Prop := fun vs H Q => ∃ i j, vs = [.int i, .int j] ∧ ∀ p, H p = none → Q (.ref p) (upd H p (.rng i j))
theorem cr_rng2 {X : Cx} : CallR X (.type "range") rRng2 := by
  intro pins s σ H vs us Q I r h
  obtain ⟨i, j, rfl, q⟩ := h
  obtain ⟨x, y, rfl, rx, ry⟩ := vals2 r
  obtain ⟨t1, rfl⟩ := rx
  obtain ⟨t2, rfl⟩ := ry
  refine call_range_2 ⟨.ref s.heap.objs.size, upd H s.heap.objs.size (.rng i j), I.laid (t' := _) (fun b o e => Heap.get?_push_of_some _ e) (Nat.le_refl _) ?_, rfl, q _ (I.hok.fresh (Nat.le_refl _))⟩
  exact ⟨_, _, _, Heap.get?_push_size _ rfl⟩
theorem rng_size (a b : Int) : Builtin.Range.rangeSize a b 1 = (((b - a).toNat : Nat) : Int) := by
  unfold Builtin.Range.rangeSize
  simp
  omega
def rListRg : List V → Hp → VK → Prop := fun xs H Q => ∃ (r : Addr) (a b : Int), xs = [.ref r] ∧ H r = some (.rng a b) ∧ (b - a).toNat ≤ 100000 ∧ ∀ l, H l = none → Q (.ref l) (upd H l (.lst ((List.range (b - a).toNat).map fun i : Nat => V.int (a + (i : Int)))))
theorem call_listRg {X : Cx} (hc : X.calm = true) : CallR X (.type "list") rListRg := by
  intro pins s σ H xs us Q I r h
  obtain ⟨ra, a, b, rfl, hr, hn, q⟩ := h
  obtain ⟨u, rfl, ru⟩ := vals1 r
  obtain rfl : u = Value.ref ra := ru
  obtain ⟨t1, t2, t3, ho⟩ := I.hok ra _ hr
  generalize hne : (b - a).toNat = n at hn q
  have esz : Builtin.Range.rangeSize a b 1 = ((n : Nat) : Int) := by rw [rng_size, hne]
  have fin : ∀ (h' : Heap) (tk : Nat) (acc : Array Value) (c' : Nat), (∀ (x : Addr) (o : Obj), s.heap.get? x = some o → h'.get? x = some o) → h'.get? s.heap.objs.size = some { cls := .type "list", data := .seq acc c' } →
      ItemsOf (fun i y => ∃ t, y = .int (a + i * 1) t) acc n → ∃ v H', L2.Inv X pins σ H' { s with heap := h', toks := tk } ∧ RelV v (Value.ref s.heap.objs.size) ∧ Q v H' := by
    intro h' tk acc' c' kp e hac
    have esz2 : acc'.toList.length = n := hac.1
    have rel : Vals ((List.range n).map fun i : Nat => V.int (a + (i : Int))) acc'.toList := by
      have z := vals_ix (P := fun i v => ∃ t, v = .int (a + (i : Int) * 1) t) (g := fun i : Nat => V.int (a + (i : Int))) (fun i v ⟨t, hv⟩ => ⟨t, by rw [hv, Int.mul_one]⟩) acc'.toList 0 fun j v hj => by
        rw [Nat.zero_add]
        exact hac.2 j v (by simpa using hj)
      rw [esz2] at z
      have e2 : (fun i : Nat => V.int (a + ((0 + i : Nat) : Int))) = fun i : Nat => V.int (a + (i : Int)) := by funext i; rw [Nat.zero_add]
      rw [e2] at z
      exact z
    have hz : ((List.range n).map fun i : Nat => V.int (a + (i : Int))).length ≤ sizeLine := by
      rw [List.length_map, List.length_range]
      unfold sizeLine; omega
    exact ⟨.ref s.heap.objs.size, _, I.laid (t' := tk) kp (Nat.le_refl _) (show ObjOk X.prog X.w _ h' _ (.lst _) from ⟨hz, acc'.toList, c', rel, by simpa using e⟩), rfl, q _ (I.hok.fresh (Nat.le_refl _))⟩
  cases big : Builtin.Range.small a b 1 with
  | true => exact call_list_range (I.ok.hd hc) (a := a) (b := b) (c := 1) (n := n) ho big esz (by omega) fin
  | false => exact call_list_long (I.ok.hd hc) (a := a) (b := b) (c := 1) (n := n) ho big esz (by omega) fin
section
variable {H0 H : Hp} {T : List (Addr × Str)} {L L' : List Cell} {r : Addr} {i j : Int} {Q : VK}
theorem s_rng2 (B : Own H0 H T L) (k : ∀ p H', Own H0 H' T (.ob p (.rng i j) :: L) → Q (.ref p) H') : rRng2 [.int i, .int j] H Q := ⟨i, j, rfl, fun p n => k p _ (B.new n trivial)⟩
theorem s_listRg (B : Own H0 H T L) [P : Pull L r (.ob r (.rng i j)) L'] (h : (j - i).toNat ≤ 100000) (k : ∀ p H', Own H0 H' T (.ob p (.lst (((List.range (j - i).toNat).map fun x : Nat => i + (x : Int)).map V.int)) :: L) → Q (.ref p) H') : rListRg [.ref r] H Q := by
  refine ⟨r, i, j, rfl, B.get r, h, fun p n => k p _ ?_⟩
  rw [List.map_map]
  exact B.new n trivial
end
/-! repr of an int -/
def rRepI : List V → Hp → VK → Prop := fun xs H Q => ∃ i : Int, xs = [.int i] ∧ i.natAbs.log2 < 1920 ∧ Q (.str (toString i)) H
theorem cr_repI {X : Cx} : CallR X (.builtin "repr") rRepI := SkE.call_repr_int
theorem s_repInt {H : Hp} {i : Int} {Q : VK} (h : i.natAbs < 2 ^ 200) (k : Q (.str (toString i)) H) : rRepI [.int i] H Q := by
  refine ⟨i, rfl, ?_, k⟩
  by_cases z : i.natAbs = 0
  · rw [z]; decide
  · exact (Nat.log2_lt z).mpr (Nat.lt_of_lt_of_le h (Nat.pow_le_pow_right (by decide) (by decide)))
end My
namespace My
open PySem PySem.Spec PyProof.Rows L2
/-! list(d.values()) -/
def tListVals (te : TE) : TE := fun σ H Q => te σ H fun x H1 => ∃ d kvs, x = .ref d ∧ H1 d = some (.dK kvs) ∧ ∀ l, H1 l = none → Q (.ref l) (upd H1 l (.lst (kvs.map (·.2))))
theorem kv_vals : ∀ {kvs : List (Key × V)} {vs : List (Key × Value)}, KV kvs vs → Vals (kvs.map (·.2)) (vs.map (·.2))
  | _, _, .nil => .nil
  | _, _, .cons h t => .cons h.2 (kv_vals t)
theorem pe_listVals {X : Cx} {e : Expr} {te : TE} {p apos cpos pos : Pos} (hg : Gl X "list") (hm : X.mg "list" = none) (hv : bootBuiltins "list" = some (.type "list")) (he : PE X e te) (hc : X.calm = true := by rfl)
    (hbase : attributeBase e "values" X.env (eval e X.env) = eval e X.env := by rfl) (hline : (apos.endLine == cpos.line) = true := by rfl)
    (hs : starEach [(Expr.Call (.Attribute e "values" apos) [] [] cpos)] X.env = (false, eval (.Call (.Attribute e "values" apos) [] [] cpos) X.env) :: starEach [] X.env := by rfl) :
    PE X (.Call (.Name "list" p) [.Call (.Attribute e "values" apos) [] [] cpos] [] pos) (tListVals te) := by
  refine ⟨fun pins s σ H Q I hq => Call_ (ld_blt I hg hm hv ?_)⟩
  refine PyProof.Rows.callWith_type1 (PyProof.Rows.args_cons (wpAny_Call_method hbase rfl hline F.plainAttrs_dict F.slot_dict_values F.type_dict_values (thn (he.run pins s σ H _ I hq) fun u s1 ⟨x, H1, I1, rx, d, kvs, ex, hd, q⟩ => ?_)) hs) hs rfl
  subst ex
  cases rx
  obtain ⟨hz, hs0, vs, kv, hdo⟩ := I1.hok d _ hd
  have lk := Paired.length kv
  obtain ⟨es, ep, hraw, hsz, hent⟩ := Heap.DictOf.raw hdo
  refine ⟨Heap.DictOf.typeIs hdo, Heap.MapOf.noDict (Heap.DictOf.mapOf hdo), ?_⟩
  refine method_meetsIn F.slot_dict_values F.entry_dict_values rfl (PySem.evalArgs_none ⟨rfl, Heap.DictOf.typeIs hdo, F.args_dict_values_1 (Value.ref d), _, meets_dict_values (mixKind X.prog X.w) d hs0, ⟨vs, hdo⟩, ?_⟩)
  refine PyProof.Rows.args_nil ?_
  have I2 : Inv X pins σ H1 { s1 with heap := s1.heap.push { cls := .type "dict_values", data := .fields #[.ref d] } } := I1.kept fun b o e => Heap.get?_push_of_some _ e
  have hview : (s1.heap.push { cls := .type "dict_values", data := .fields #[.ref d] }).IsValuesView s1.heap.objs.size d := ⟨_, Heap.get?_push_size _ rfl, rfl, rfl⟩
  obtain ⟨ob, ho1, ho2, ho3⟩ := hraw
  refine W.kdl_call (d := d) (KdlSrc.rawValues (es := es) (ep := ep)) (I1.ok.hd hc) ⟨hview, ob, Heap.get?_push_of_some _ ho1, ho2, ho3⟩ (by rw [hsz, ← lk]; exact hz) ?_
  intro h' tk acc c' kp e hac
  have rel : Vals (kvs.map (·.2)) acc.toList := by
    have ea : acc.toList = vs.map (·.2) := by
      refine List.ext_getElem? fun j => ?_
      rw [List.getElem?_map]
      rcases Nat.lt_or_ge j vs.length with h | h
      · have h1 : j < acc.size := by rw [hac.1, hsz]; exact h
        obtain ⟨hi, ev⟩ := hac.2 j acc[j] (by simp [h1])
        obtain ⟨_, e2⟩ := hent j hi vs[j].1 vs[j].2 (by rw [List.getElem?_eq_getElem h])
        rw [List.getElem?_eq_getElem h, Option.map_some, ← e2, ← ev]
        simp [h1]
      · have h1 : acc.size ≤ j := by rw [hac.1, hsz]; exact h
        rw [List.getElem?_eq_none h, Option.map_none]
        simp [h1]
    rw [ea]
    exact kv_vals kv
  have hl : (kvs.map (·.2)).length ≤ sizeLine := by rw [List.length_map]; exact hz
  exact ⟨.ref _, _, I2.laid (t' := tk) kp (Nat.le_refl _) (show ObjOk X.prog X.w _ h' _ (.lst _) from ⟨hl, acc.toList, c', rel, by simpa using e⟩), rfl, q _ (I2.hok.fresh (Nat.le_refl _))⟩
open LamX
section
variable {K : PySem.W.Frag} {H0 H : Hp} {T : List (Addr × Str)} {L L' M : List Cell} {a d : Addr} {kvs : List (Key × V)} {σ : L2.St} {Q : VK} {tt : TT} {te : TE} {v : V}
theorem s_dnew (B : Own H0 H T L) (k : ∀ p H', Own H0 H' T (.ob p (.dK []) :: L) → Q (.ref p) H') : tDNewK σ H Q := fun p n => k p _ (B.new n trivial)
def ValsAt (x : V) (H : Hp) (Q : VK) : Prop := ∃ d kvs, x = .ref d ∧ H d = some (.dK kvs) ∧ ∀ l, H l = none → Q (.ref l) (upd H l (.lst (kvs.map (·.2))))
theorem s_lvS (k : te σ H fun x H1 => ValsAt x H1 Q) : tListVals te σ H Q := k
theorem s_lv (B : Own H0 H T L) [P : Pull L d (.ob d (.dK kvs)) L'] (k : ∀ p H', Own H0 H' T (.ob p (.lst (kvs.map (·.2))) :: L) → Q (.ref p) H') : ValsAt (.ref d) H Q := ⟨d, kvs, rfl, B.get d, fun l n => k l _ (B.new n trivial)⟩
/-- d[x] = v -/
theorem s_setD {Qh : Hp → Prop} {x : Int} (B : Own H0 H T L) [P : Pull L a (.ob a (.dK kvs)) L'] (h : kvs.length < sizeLine) (k : ∀ H', Own H0 H' T (.ob a (.dK (putK kvs (.inl x) v)) :: L') → Qh H') : rSetD (.ref a) (.int x) v H Qh :=
  ⟨a, _, rfl, .inl ⟨kvs, .inl x, B.get a, rfl, h, rfl⟩, k _ ((B.pull a).wr trivial)⟩
/-- d.pop(x) -/
def DPopAt (x : V) (ty : TE) (σ : L2.St) (H1 : Hp) (Q : VK) : Prop := ∃ a, x = .ref a ∧ IsD H1 a ∧ ty σ H1 fun y H2 => ∃ kvs k v, H2 a = some (.dK kvs) ∧ y = kV k ∧ valV kvs k = some v ∧ Q v (upd H2 a (.dK (dropK kvs k)))
theorem s_dpopS {td ty : TE} (k : td σ H fun x H1 => DPopAt x ty σ H1 Q) : tDPop1 td ty σ H Q := k
theorem s_dpopT {ty : TE} (h : H a = some (.dK kvs)) (k : ty σ H fun y H2 => ∃ kvs k v, H2 a = some (.dK kvs) ∧ y = kV k ∧ valV kvs k = some v ∧ Q v (upd H2 a (.dK (dropK kvs k)))) : DPopAt (.ref a) ty σ H Q := ⟨a, rfl, .inl ⟨kvs, .inl h⟩, k⟩
theorem s_dpop {x : Int} (B : Own H0 H T L) [P : Pull L a (.ob a (.dK kvs)) L'] (h : valV kvs (.inl x) = some v) (k : ∀ H', Own H0 H' T (.ob a (.dK (dropK kvs (.inl x))) :: L') → Q v H') : ∃ kvs k v, H a = some (.dK kvs) ∧ V.int x = kV k ∧ valV kvs k = some v ∧ Q v (upd H a (.dK (dropK kvs k))) :=
  ⟨kvs, .inl x, v, B.get a, rfl, h, k _ ((B.pull a).wr trivial)⟩
/-- a dict that is locked: read -/
theorem s_dgetF {x : Int} {od : Obj} (h : H a = some (.frz od (.dK kvs))) (e : valV kvs (.inl x) = some v) (k : Q v H) : GetAt (.ref a) (.int x) H Q := ⟨a, v, rfl, .inl ⟨kvs, .inl x, .inr ⟨od, h⟩, rfl, e.symm⟩, k⟩
/-- [.. for k in d if ..], d locked while it runs -/
theorem lcK_core {i kx : Nat} {vs : List Nat} (Pv : Nat → List V → List Cell → Prop) (B : Own H0 H T L) (d : Addr) (P : L.Perm (.ob d (.dK kvs) :: L')) (hσ : σ[i]? = some (some (.ref d))) (start : Pv 0 [] L')
    (wp : ∀ x : V, wipe ((wipe σ vs).set kx (some x)) vs = wipe σ vs)
    (turn : ∀ od D j k v acc M H, kvs[j]? = some (k, v) → Pv j acc M → Own H0 H T (.ob D (.lst acc) :: .ob d (.frz od (.dK kvs)) :: M) → tt ((wipe σ vs).set kx (some (kV k))) H fun b H3 =>
      if b = true then te ((wipe σ vs).set kx (some (kV k))) H3 fun y H4 => ∃ acc, H4 D = some (.lst acc) ∧ acc.length < sizeLine ∧ NoEl H0 T D (fun acc N => ∃ M, N = .ob d (.frz od (.dK kvs)) :: M ∧ Pv (j + 1) acc M) (upd H4 D (.lst (acc ++ [y])))
      else NoEl H0 T D (fun acc N => ∃ M, N = .ob d (.frz od (.dK kvs)) :: M ∧ Pv (j + 1) acc M) H3)
    (last : ∀ D acc M H, Pv kvs.length acc M → Own H0 H T (.ob D (.lst acc) :: .ob d (.dK kvs) :: M) → Q (.ref D) H) (od : Obj) :
    tLc (iKeys (tVar i)) (gName kx) tt te vs σ (upd H d (.frz od (.dK kvs))) fun v H' => H' d = some (.frz od (.dK kvs)) ∧ Q v (upd H' d (.dK kvs)) := by
  have BF : Own H0 (upd H d (.frz od (.dK kvs))) T (.ob d (.frz od (.dK kvs)) :: L') := (B.perm P).wr trivial
  refine ⟨.ref d, hσ, d, od, rfl, .inl ⟨kvs, upd_same, ?_⟩⟩
  intro D nD
  refine ⟨fun j m H => m = kvs.length - j ∧ j ≤ kvs.length ∧ NoEl H0 T D (fun acc N => ∃ M, N = .ob d (.frz od (.dK kvs)) :: M ∧ Pv j acc M) H, ⟨kvs.length, rfl, Nat.zero_le _, [], _, BF.new nD trivial, L', rfl, start⟩, ?_⟩
  rintro j m H1 ⟨em, le, acc, N, B1, M, rfl, h⟩
  have fz : H1 d = some (.frz od (.dK kvs)) := B1.tail.head.1
  rcases Nat.lt_or_ge j kvs.length with lt | ge
  · refine Or.inr ⟨⟨fz, lt⟩, NoEl H0 T D (fun acc N => ∃ M, N = .ob d (.frz od (.dK kvs)) :: M ∧ Pv (j + 1) acc M), ?_, ?_⟩
    · intro H' p'
      exact ⟨kvs.length - (j + 1), by omega, rfl, lt, p'⟩
    · rintro x H' ⟨rfl, k, v, e1, rfl⟩
      exact ⟨wp _, turn od D j k v acc M _ e1 h B1⟩
  · have e : j = kvs.length := by omega
    subst e
    refine Or.inl ⟨⟨fz, Nat.le_refl _⟩, fz, ?_⟩
    have B2 : Own H0 H1 T (.ob d (.frz od (.dK kvs)) :: .ob D (.lst acc) :: M) := B1.perm (List.Perm.swap ..)
    have B3 : Own H0 (upd H1 d (.dK kvs)) T (.ob d (.dK kvs) :: .ob D (.lst acc) :: M) := B2.wr trivial
    exact last D acc M _ h (B3.perm (List.Perm.swap ..))
theorem s_lcK {i kx : Nat} {vs : List Nat} (Pv : Nat → List V → List Cell → Prop) (B : Own H0 H T L) (d : Addr) [P : Pull L d (.ob d (.dK kvs)) L'] (hσ : σ[i]? = some (some (.ref d))) (start : Pv 0 [] L')
    (wp : ∀ x : V, wipe ((wipe σ vs).set kx (some x)) vs = wipe σ vs)
    (turn : ∀ od D j k v acc M H, kvs[j]? = some (k, v) → Pv j acc M → Own H0 H T (.ob D (.lst acc) :: .ob d (.frz od (.dK kvs)) :: M) → tt ((wipe σ vs).set kx (some (kV k))) H fun b H3 =>
      if b = true then te ((wipe σ vs).set kx (some (kV k))) H3 fun y H4 => ∃ acc, H4 D = some (.lst acc) ∧ acc.length < sizeLine ∧ NoEl H0 T D (fun acc N => ∃ M, N = .ob d (.frz od (.dK kvs)) :: M ∧ Pv (j + 1) acc M) (upd H4 D (.lst (acc ++ [y])))
      else NoEl H0 T D (fun acc N => ∃ M, N = .ob d (.frz od (.dK kvs)) :: M ∧ Pv (j + 1) acc M) H3)
    (last : ∀ D acc M H, Pv kvs.length acc M → Own H0 H T (.ob D (.lst acc) :: .ob d (.dK kvs) :: M) → Q (.ref D) H) : tLockE (tLc (iKeys (tVar i)) (gName kx) tt te vs) σ H Q :=
  ⟨d, .dK kvs, B.get d, trivial, fun od => lcK_core Pv B d P.p hσ start wp turn last od⟩
/-- xs = [.. for k in d if ..] as a statement -/
theorem s_lcKS {i kx r : Nat} {vs : List Nat} {E : Ends} (Pv : Nat → List V → List Cell → Prop) (B : Own H0 H T L) (d : Addr) [P : Pull L d (.ob d (.dK kvs)) L'] (hσ : σ[i]? = some (some (.ref d))) (start : Pv 0 [] L')
    (wp : ∀ x : V, wipe ((wipe σ vs).set kx (some x)) vs = wipe σ vs)
    (turn : ∀ od D j k v acc M H, kvs[j]? = some (k, v) → Pv j acc M → Own H0 H T (.ob D (.lst acc) :: .ob d (.frz od (.dK kvs)) :: M) → tt ((wipe σ vs).set kx (some (kV k))) H fun b H3 =>
      if b = true then te ((wipe σ vs).set kx (some (kV k))) H3 fun y H4 => ∃ acc, H4 D = some (.lst acc) ∧ acc.length < sizeLine ∧ NoEl H0 T D (fun acc N => ∃ M, N = .ob d (.frz od (.dK kvs)) :: M ∧ Pv (j + 1) acc M) (upd H4 D (.lst (acc ++ [y])))
      else NoEl H0 T D (fun acc N => ∃ M, N = .ob d (.frz od (.dK kvs)) :: M ∧ Pv (j + 1) acc M) H3)
    (last : ∀ D acc M H, Pv kvs.length acc M → Own H0 H T (.ob D (.lst acc) :: .ob d (.dK kvs) :: M) → E.nx (σ.set r (some (.ref D))) H) : tLock (tAsg (tLc (iKeys (tVar i)) (gName kx) tt te vs) (gName r)) E σ H :=
  ⟨d, .dK kvs, B.get d, trivial, fun od => lcK_core (Q := fun v H => E.nx (σ.set r (some v)) H) Pv B d P.p hσ start wp turn last od⟩
/-- sorted([(i, j), ..]) -/
theorem s_sortP {xs : List V} {k : V → Int × Int} (B : Own H0 H T L) (h : SqL K H a xs) (ht : ∀ x ∈ xs, ∃ t, x = V.ref t ∧ H t = some (.tup [.int (k x).1, .int (k x).2]))
    (c : ∀ ys p H', ys.Perm xs → ys.Pairwise (fun x y => ¬ ((k y).1 < (k x).1 ∨ ((k y).1 = (k x).1 ∧ (k y).2 < (k x).2))) → Own H0 H' T (.ob p (.lst ys) :: L) → Q (.ref p) H') : rSortedPO K [.ref a] H Q := by
  refine ⟨a, xs, k, rfl, h, ht, fun ys p h1 h2 n => c ys p _ h2.perm (h1.imp fun {x y} e => ?_) (B.new n trivial)⟩
  intro z
  have e2 : SrtO.lexB (k y) (k x) = false := e
  unfold SrtO.lexB at e2
  split at e2
  · have := of_decide_eq_false e2; omega
  · have := of_decide_eq_false e2; omega
end
end My
namespace My
open PySem PySem.Spec PyProof.Rows L2
/-! dict([(k, v), ..]) -/
def rDictP : List V → Hp → VK → Prop := fun xs H Q => ∃ (a : Addr) (ts : List Addr) (kvs : List (Key × V)), xs = [.ref a] ∧ H a = some (.lst (ts.map V.ref)) ∧ ts.length = kvs.length ∧
  (∀ (j : Nat) (t : Addr) (p : Key × V), ts[j]? = some t → kvs[j]? = some p → H t = some (.tup [kV p.1, p.2])) ∧ kvs.length ≤ 100000 ∧ ∀ l, H l = none → Q (.ref l) (upd H l (.dK (mergeK [] kvs)))
theorem pairs_mk {h : Heap} : ∀ {ts : List Addr} {kvs : List (Key × V)}, ts.length = kvs.length → (∀ (j : Nat) (t : Addr) (p : Key × V), ts[j]? = some t → kvs[j]? = some p → ∃ k v, keyIs p.1 k = true ∧ RelV p.2 v ∧ PairAt h t k v) →
    ∃ (ps : List (Value × Value)) (rs : List (Key × Value)), ps.length = kvs.length ∧ rs.length = kvs.length ∧ KV kvs rs ∧ (∀ (j : Nat) (t : Addr) (k v : Value), ts[j]? = some t → ps[j]? = some (k, v) → PairAt h t k v) ∧ ∀ (j : Nat) (k v : Value), ps[j]? = some (k, v) → ∃ q, rs[j]? = some (q, v) ∧ keyIs q k = true
  | [], [], _, _ => ⟨[], [], rfl, rfl, .nil, (fun j t k v h1 => by simp at h1), fun j k v h1 => by simp at h1⟩
  | t :: ts, p :: kvs, hl, hp => by
    obtain ⟨ps, rs, l1, l2, kv, h1, h2⟩ := pairs_mk (h := h) (ts := ts) (kvs := kvs) (by simpa using hl) fun j t p a b => hp (j + 1) t p a b
    obtain ⟨k, v, e1, e2, e3⟩ := hp 0 t p rfl rfl
    refine ⟨(k, v) :: ps, (p.1, v) :: rs, by simp [l1], by simp [l2], .cons ⟨rfl, e2⟩ kv, fun j t' k' v' a b => ?_, fun j k' v' b => ?_⟩
    · cases j with
      | zero => cases a; cases b; exact e3
      | succ j => exact h1 j t' k' v' a b
    · cases j with
      | zero => cases b; exact ⟨p.1, rfl, e1⟩
      | succ j => exact h2 j k' v' b
theorem cr_dictP {X : Cx} (hc : X.calm = true) : CallR X (.type "dict") rDictP := by
  intro pins s σ H xs us Q I r h
  obtain ⟨a, ts, kvs, rfl, ha, hl, hp, hz, q⟩ := h
  obtain ⟨u, rfl, ru⟩ := vals1 r
  obtain rfl : u = Value.ref a := ru
  obtain ⟨_, its, c', rel, e⟩ := I.hok a _ ha
  obtain ⟨ps, rs, l1, l2, kv, h1, h2⟩ := pairs_mk (h := s.heap) hl fun j t p e1 e2 => by
    obtain ⟨_, us, rt, et⟩ := I.hok t _ (hp j t p e1 e2)
    obtain ⟨x, y, rfl, rx, ry⟩ := vals2 rt
    exact ⟨x, y, kV_is (P := X.prog) (w := X.w) rx, ry, .inl et⟩
  have eits : its = ts.map Value.ref := by
    have go : ∀ (ts : List Addr) (its : List Value), Vals (ts.map V.ref) its → its = ts.map Value.ref := by
      intro ts
      induction ts with
      | nil => intro its h; cases h; rfl
      | cons t ts ih =>
        intro its h
        cases h with
        | cons h1 h2 => rw [ih _ h2, show _ = Value.ref t from h1]; rfl
    exact go ts its rel
  have hit : PairItems s.heap its.toArray (fun j => ts.getD j 0) ps := by
    refine ⟨by rw [eits, List.size_toArray, List.length_map, hl, l1], fun j k v hj => ?_⟩
    have hjl : j < ts.length := by have := (List.getElem?_eq_some_iff.mp hj).1; omega
    have ht : ts[j]? = some (ts.getD j 0) := by rw [List.getD_eq_getElem?_getD, List.getElem?_eq_getElem hjl]; rfl
    refine ⟨?_, h1 j _ k v ht hj⟩
    rw [eits, List.getElem?_toArray, List.getElem?_map, ht]; rfl
  refine call_dict_pairs (knd := mixKind X.prog X.w) (kvs := rs) (PairArg.list a its.toArray (fun j => ts.getD j 0) ps) (I.ok.hd hc) ⟨⟨_, _, e, rfl, rfl, rfl⟩, hit⟩ ⟨by rw [l1, l2], fun i key v hi => h2 i key v hi⟩ (by rw [l1, sizeLine_eq]; omega) fun h' tk hd hk => ?_
  have I2 : Inv X pins σ (upd H s.heap.objs.size (.dK (mergeK [] kvs))) { s with heap := h', toks := tk } := I.laid (t' := tk) (fun b o e => hk b o (fun z => nomatch z) e) (Nat.le_refl _) (dk_new (by
    have := length_mergeK kvs []
    rw [List.length_nil] at this
    rw [sizeLine_eq]; omega) (beq_eq_false_iff_ne.mpr (Nat.ne_of_gt I.big)) (kv.merge .nil) hd)
  exact ⟨.ref _, _, I2, rfl, q _ (I.hok.fresh (Nat.le_refl _))⟩
theorem merge_nd : ∀ {more kvs : List (Key × V)}, ((kvs ++ more).map (·.1)).Nodup → mergeK kvs more = kvs ++ more
  | [], kvs, _ => (List.append_nil kvs).symm
  | p :: r, kvs, nd => by
    have hn : valV kvs p.1 = none := by
      unfold valV
      rw [Option.map_eq_none_iff, List.find?_eq_none]
      intro x hx e
      rw [List.map_append, List.map_cons] at nd
      exact (List.nodup_append.mp nd).2.2 x.1 (List.mem_map_of_mem hx) p.1 (List.mem_cons_self ..) (by simpa using e)
    show mergeK (putK kvs p.1 p.2) r = _
    rw [putK_new _ hn, merge_nd (by rw [List.append_assoc]; exact nd), List.append_assoc]; rfl
section
variable {H0 H : Hp} {T : List (Addr × Str)} {L : List Cell} {a : Addr} {ts : List Addr} {kvs : List (Key × V)} {Q : VK}
theorem s_dictP (B : Own H0 H T L) (ha : H a = some (.lst (ts.map V.ref))) (hl : ts.length = kvs.length) (hp : ∀ (j : Nat) (t : Addr) (p : Key × V), ts[j]? = some t → kvs[j]? = some p → H t = some (.tup [kV p.1, p.2])) (hz : kvs.length ≤ 100000) (nd : (kvs.map (·.1)).Nodup)
    (k : ∀ d H', Own H0 H' T (.ob d (.dK kvs) :: L) → Q (.ref d) H') : rDictP [.ref a] H Q := by
  refine ⟨a, ts, kvs, rfl, ha, hl, hp, hz, fun l n => ?_⟩
  rw [merge_nd (kvs := []) (more := kvs) nd]
  exact k l _ (B.new n trivial)
end
end My
namespace My
open PySem PySem.Spec PyProof.Rows L2
/-! sorted(set(xs)), xs a list of ints of any length -/
section
variable {P : Program} {w : World} {A : Around} {E : Value → Shared → Prop} {s : Shared}
theorem srt_set {a : Addr} {S : Int → Bool} {m : Nat} {Qv : Value → Shared → Prop} (R : SetR w s.heap a S m) (calm : A.handled = none)
    (fin : ∀ (t : Shared) (p : Addr) (ys : Array Value) (cap : Nat) (js : List Int), (∀ b u, s.heap.get? b = some u → t.heap.get? b = some u) → t.gens = s.gens → t.os = s.os → s.heap.objs.size ≤ p →
      t.heap.get? p = some (seqObj "list" ys cap) → IntsAre ys.toList js → js.Pairwise (· < ·) → (∀ x, x ∈ js ↔ S x = true) → Qv (.ref p) t) : wpAny (model P w) A (call (.builtin "sorted") [.ref a]) Qv E s := by
  obtain ⟨ob, tab, epo, pl, h1, h2, h3, good, uniq, mem, small, fits, size, rises, led⟩ := R
  refine Calls.call_function_entry kind_sorted plain_sorted entry_sorted (args_sorted1 _) (by
    unfold Builtin.«sorted»
    refine wpAny_bind (m := checkCount "sorted" 1 1 _) (wpAny_pure (wpAny_bind (collect_set (A := A.in1) calm ⟨ob, h1, h2.1, h3⟩ fits small rises led fun t1 us keep1 up1 gn1 os1 per => ?_)))
    have len1 : us.length = m := by rw [per.length_eq, List.length_map, Array.length_toList]; exact size
    have isI : IntsAre us (us.map Builtin.Re.reRawOf) := ints_of us fun u hu => by
      obtain ⟨e0, m0, q0⟩ := List.mem_map.mp (per.mem_iff.mp hu)
      obtain ⟨k0, t0, z0, _⟩ := good e0 m0
      exact ⟨k0, t0, q0 ▸ z0⟩
    have perK : (us.map Builtin.Re.reRawOf).Perm (tab.toList.map keyOf) := by have z := per.map Builtin.Re.reRawOf; rw [List.map_map] at z; exact z
    have lim : us.length ≤ sizeLine := by rw [len1, ← size, sizeLine_eq]; unfold scanBound at small; omega
    refine wpAny_bind (wpAny_newList ?_ lim)
    have hL : (t1.heap.push (seqObj "list" us.toArray 0)).get? t1.heap.objs.size = some (seqObj "list" us.toArray 0) := Heap.get?_push_size _ rfl
    refine wpAny_bind (wpAny_holding (wpAny_call_entry slot_list_sort ⟨_, hL, rfl⟩ entry_list_sort (list_sort_treeAny hL isI lim fun ys js z1 z2 z3 => ⟨_, rfl, ?_⟩) (args_list_sort _)))
    obtain ⟨cap, hcap⟩ := sortedHeap_at (vs := us) (out := ys) hL
    have perJ : js.Perm (tab.toList.map keyOf) := z2.trans perK
    refine wpAny_pure ⟨_, rfl, fin _ t1.heap.objs.size ys cap js (fun b u e => ?_) gn1 os1 up1 hcap z1 (lt_of_le_nodup js z3 (perJ.nodup_iff.mpr uniq)) fun x => by rw [perJ.mem_iff, ← mem x]⟩
    have q1 := keep1 b u e
    have below := Heap.lt_size q1
    show (sortedHeap (t1.heap.push (seqObj "list" us.toArray 0)) t1.heap.objs.size us ys).get? b = some u
    rw [sortedHeap_old (Nat.ne_of_lt below) (by rw [size_push']; exact Nat.lt_succ_of_lt below)]
    exact Heap.get?_push_of_some _ q1)
end
/-- sorted(set(xs)) as one step -/
def tSrtSet (K : PySem.W.Frag) (ta : TE) : TE := fun sg H Q => ta sg H fun x H1 => ∃ (l : Addr) (ns : List Int), x = .ref l ∧ SqL K H1 l (ns.map V.int) ∧ ns.length ≤ 4000 ∧ ∀ (js : List Int) (p : Addr), js.Pairwise (· < ·) → (∀ y, y ∈ js ↔ y ∈ ns) → H1 p = none → Q (.ref p) (upd H1 p (.lst (js.map V.int)))
theorem pe_srtSet {X : Cx} {a : Expr} {ta : TE} {p p2 q pos : Pos} (hg : Gl X "sorted") (hm : X.mg "sorted" = none) (hg2 : Gl X "set") (hm2 : X.mg "set" = none) (bs : bootBuiltins "sorted" = some (.builtin "sorted")) (ha : PE X a ta) (hc : X.calm = true := by rfl)
    (na : starEach [a] X.env = (false, eval a X.env) :: starEach [] X.env := by rfl) : PE X (.Call (.Name "sorted" p) [.Call (.Name "set" p2) [a] [] q] [] pos) (tSrtSet X.K ta) := by
  refine ⟨fun pins s sg H Q I h => Call_ (ld_blt I hg hm bs ?_)⟩
  refine PyProof.Rows.callWith_builtin1 (PyProof.Rows.args_cons (Call_ (ld_blt I hg2 hm2 boot_set ?_)) rfl) rfl rfl
  refine PyProof.Rows.callWith_type1 (PyProof.Rows.args_cons (thn (ha.run pins s sg H _ I h) fun v s1 ⟨x, H1, I1, r1, q1⟩ => PyProof.Rows.args_nil ?_) na) na rfl
  obtain ⟨l, ns, rfl, hq, hl, q1⟩ := q1
  cases r1
  obtain ⟨its, r, pl, hz⟩ := I1.list hq
  refine call_setL ns (I1.ok.hd hc) pl.isList (by simpa using r.ints) (by unfold scanBound; omega) fun s2 hF => PyProof.Rows.args_nil ?_
  obtain ⟨h', tk, c, es, hS0, hcl, kp⟩ := hF
  have hS : SetR X.w s2.heap s1.heap.objs.size (fun j => decide (j ∈ ns)) c := by rw [es]; exact hS0
  have I2 : Inv X pins sg H1 s2 := by rw [es]; exact I1.kept fun b o e => kp b o e
  refine srt_set hS (I2.ok.hd hc) fun s' p ys cap js k gn os up hp hi hs hm => ?_
  have hlen : (js.map V.int).length ≤ sizeLine := by
    have nd : js.Nodup := hs.imp fun z => by omega
    have sub : ∀ y ∈ js, y ∈ ns := fun y hy => of_decide_eq_true ((hm y).mp hy)
    have := List.Nodup.length_le_of_subset nd sub
    rw [List.length_map, sizeLine_eq]; omega
  have free : H1 p = none := I2.hok.fresh up
  have J : Inv X pins sg (upd H1 p (.lst (js.map V.int))) { s2 with heap := s'.heap, gens := s'.gens, drawn := s'.drawn, toks := s'.toks } :=
    I2.call (ch := []) (Un.laid k up free) (I2.hok.laid k up ⟨hlen, ys.toList, cap, vals_of_ints hi, hp⟩) (by rw [gn]; exact I2.bare) (fun _ z => nomatch z)
  have e : s' = { s2 with heap := s'.heap, gens := s'.gens, drawn := s'.drawn, toks := s'.toks } := by
    cases s'; cases s2; cases os; rfl
  rw [e]
  exact ⟨.ref p, _, J, rfl, q1 js p hs (fun y => (hm y).trans decide_eq_true_iff) free⟩
end My
namespace My
open PySem PySem.Spec PyProof.Rows L2
/-! x in ys, x a list or a tuple -/
def rInDeep (K : PySem.W.Frag) (neg : Bool) : R2 := fun x y H Q => ∃ (d : PyData) (ds : List PyData), Dp K H x d ∧ Dp K H y (.list ds) ∧ d.plain = true ∧ PyData.plainAll ds = true ∧ d.depth ≤ 40 ∧ Q (.bl (if neg then !(ds.any fun z => PyData.eqv z d) else ds.any fun z => PyData.eqv z d)) H
theorem op_inDeep {X : Cx} (hu : X.A.units + 64 < cLine) : OpR X (compareOp .In) (rInDeep X.K false) := by
  intro pins s σ H x y v u Q I rx ry h
  obtain ⟨d, ds, hd, he, pd, pe, dd, q⟩ := h
  obtain ⟨as, r1⟩ := Dp.reads I d x v hd rx
  obtain ⟨bs, r2⟩ := Dp.reads I (.list ds) y u he ry
  exact SeqAt.in_list_data r2 r1 pe pd (by have := Nat.min_le_right (PyData.depthAll ds) d.depth; omega) ⟨.bl _, H, I, rfl, q⟩
theorem op_ninDeep {X : Cx} (hu : X.A.units + 64 < cLine) : OpR X (compareOp .NotIn) (rInDeep X.K true) := by
  intro pins s σ H x y v u Q I rx ry h
  obtain ⟨d, ds, hd, he, pd, pe, dd, q⟩ := h
  obtain ⟨as, r1⟩ := Dp.reads I d x v hd rx
  obtain ⟨bs, r2⟩ := Dp.reads I (.list ds) y u he ry
  exact SeqAt.notIn_list_data r2 r1 pe pd (by have := Nat.min_le_right (PyData.depthAll ds) d.depth; omega) ⟨.bl _, H, I, rfl, q⟩
theorem plain_I (ns : List Int) : (dI ns).plain = true := by
  unfold dI
  simp only [PyData.plain]
  induction ns with
  | nil => rfl
  | cons n ns ih => simp only [List.map_cons, PyData.plainAll, PyData.plain, ih, Bool.and_true]
theorem plain_R (fam : List (List Int)) : PyData.plainAll (fam.map dI) = true := by
  induction fam with
  | nil => rfl
  | cons f fam ih => simp only [List.map_cons, PyData.plainAll, plain_I, ih, Bool.and_true]
section
variable {K : PySem.W.Frag} {H : Hp} {a p : Addr} {qs : List Addr} {ns : List Int} {fam : List (List Int)} {Q : VK}
theorem s_inF (h : H a = some (.lst (ns.map V.int))) (ht : H p = some (.lst (qs.map V.ref))) (hr : Rws H qs (vv fam)) (k : Q (.bl (decide (ns ∈ fam))) H) : rInDeep K false (.ref a) (.ref p) H Q := by
  refine ⟨dI ns, fam.map dI, dpI (SqL.of h), dpR ht hr, plain_I ns, plain_R fam, Nat.le_trans (dI_depth ns) (by decide), ?_⟩
  have e : ((fam.map dI).any fun z => PyData.eqv z (dI ns)) = decide (ns ∈ fam) := by
    rw [List.any_map, Bool.eq_iff_iff, List.any_eq_true, decide_eq_true_iff]
    constructor
    · rintro ⟨f, hf, h⟩
      have h : PyData.eqv (dI f) (dI ns) = true := h
      rw [eqv_II] at h
      exact of_decide_eq_true h ▸ hf
    · intro hf
      exact ⟨ns, hf, by show PyData.eqv (dI ns) (dI ns) = true; rw [eqv_II]; exact decide_eq_true rfl⟩
  show Q (.bl ((fam.map dI).any fun z => PyData.eqv z (dI ns))) H
  rw [e]
  exact k
end
end My
namespace My
open PySem PySem.Spec PyProof.Rows L2 LamX
/-! for x, y, z in zip(xs, ys, zs) over three lists -/
def Itz3 (K : PySem.W.Frag) (a b c : Addr) : It :=
  ⟨fun i H => ∃ (xs ys zs : List V) (x y z : V), SqL K H a xs ∧ SqL K H b ys ∧ SqL K H c zs ∧ xs[i]? = some x ∧ ys[i]? = some y ∧ zs[i]? = some z,
    fun i H v H' => ∃ T x y z, v = .ref T ∧ H T = none ∧ H' = upd H T (.tup [x, y, z]) ∧ (∀ xs, SqL K H a xs → xs[i]? = some x) ∧ (∀ ys, SqL K H b ys → ys[i]? = some y) ∧ ∀ zs, SqL K H c zs → zs[i]? = some z,
    fun i H => ∃ xs ys zs : List V, SqL K H a xs ∧ SqL K H b ys ∧ SqL K H c zs ∧ i = min (min xs.length ys.length) zs.length⟩
theorem turn_zip3 {P : Program} {w : World} {K : PySem.W.Frag} {elts : List Expr} {kk : Nat} {tpos : Pos} {N a b c : Addr} (ha : a < N) (hb : b < N) (hc : c < N) :
    Turn P w K (.Tuple elts kk tpos) (Itz3 K a b c) [N + 5, N + 3, N + 4, N, N + 1, N + 2] (N + 5) (fun i h => IsZip h (N + 5) (N + 3) (N + 4) .none ∧ IsTupOf3 h (N + 3) (.ref N) (.ref (N + 1)) (.ref (N + 2)) ∧ (∃ u v x, IsTupOf3 h (N + 4) u v x) ∧ h.IsListIter N a i ∧ h.IsListIter (N + 1) b i ∧ h.IsListIter (N + 2) c i) where
  mem := by simp
  obj := fun i h st q hq => by
    obtain ⟨hz, hTI, ⟨u, v, x, hTO⟩, ⟨o1, e1, _, d1⟩, ⟨o2, e2, _, d2⟩, ⟨o3, e3, _, d3⟩⟩ := st
    have e' : q = N + 5 ∨ q = N + 3 ∨ q = N + 4 ∨ q = N ∨ q = N + 1 ∨ q = N + 2 := by simpa using hq
    rcases e' with r | r | r | r | r | r
    · rw [r]; exact ⟨_, hz, fun v q => nomatch q⟩
    · rw [r]; exact ⟨_, hTI, fun v q => nomatch q⟩
    · rw [r]; exact ⟨_, hTO, fun v q => nomatch q⟩
    · rw [r]; exact ⟨o1, e1, fun v q => by rw [d1] at q; cases q⟩
    · rw [r]; exact ⟨o2, e2, fun v q => by rw [d2] at q; cases q⟩
    · rw [r]; exact ⟨o3, e3, fun v q => by rw [d3] at q; cases q⟩
  keep := fun i h h' st k => by
    obtain ⟨hz, hTI, ⟨u, v, x, hTO⟩, h1, h2, h3⟩ := st
    exact ⟨k _ (by simp) _ hz, k _ (by simp) _ hTI, ⟨u, v, x, k _ (by simp) _ hTO⟩, h1.at fun o q => k N (by simp) o q, h2.at fun o q => k (N + 1) (by simp) o q, h3.at fun o q => k (N + 2) (by simp) o q⟩
  item := by
    intro X hP hw hK hcm i pins s σ H E I hf st hg
    subst hP hw hK
    obtain ⟨hz, hTI, hTO, h1, h2, h3⟩ := st
    obtain ⟨xs, ys, zs, x, y, z, qx, qy, qz, hx, hy, hzz⟩ := hg
    obtain ⟨ix, rx, px, _⟩ := I.list qx
    obtain ⟨iy, ry, py, _⟩ := I.list qy
    obtain ⟨iz, rz, pz, _⟩ := I.list qz
    obtain ⟨ux, hux, vx⟩ := rx.get hx
    obtain ⟨uy, huy, vy⟩ := ry.get hy
    obtain ⟨uz, huz, vz⟩ := rz.get hzz
    have hh : X.A.in1.handled = none := I.ok.hd hcm
    have sep := zip_sep3 (N := N) (fp1 := [a]) (fp2 := [b]) (fp3 := [c]) (fun q hq => by rw [List.mem_singleton.mp hq]; exact ha) (fun q hq => by rw [List.mem_singleton.mp hq]; exact hb) (fun q hq => by rw [List.mem_singleton.mp hq]; exact hc)
    have G := GoesN.zip3 (prog := X.prog) (w := X.w) (A := X.A) (elts := elts) (x1 := kk) (pos := tpos) sep (Draws.list hh N a (Nat.ne_of_lt ha) ix.toArray) (Draws.list hh (N + 1) b (by have : b < N := hb; exact Nat.ne_of_lt (Nat.lt_succ_of_lt this)) iy.toArray) (Draws.list hh (N + 2) c (by have : c < N := hc; exact Nat.ne_of_lt (Nat.lt_succ_of_lt (Nat.lt_succ_of_lt this))) iz.toArray)
    have i1 : i < ix.length := (List.getElem?_eq_some_iff.mp hux).1
    have i2 : i < iy.length := (List.getElem?_eq_some_iff.mp huy).1
    have i3 : i < iz.length := (List.getElem?_eq_some_iff.mp huz).1
    refine wpAny_mono (G.goes i s (fun u s2 => ∃ x H', Inv X pins σ H' s2 ∧ RelV x u ∧ (Itz3 X.K a b c).yld i H x H' ∧ (IsZip s2.heap (N + 5) (N + 3) (N + 4) .none ∧ IsTupOf3 s2.heap (N + 3) (.ref N) (.ref (N + 1)) (.ref (N + 2)) ∧ (∃ u v x, IsTupOf3 s2.heap (N + 4) u v x) ∧ s2.heap.IsListIter N a (i + 1) ∧ s2.heap.IsListIter (N + 1) b (i + 1) ∧ s2.heap.IsListIter (N + 2) c (i + 1)) ∧ ∀ q ∈ [N + 5, N + 3, N + 4, N, N + 1, N + 2], H' q = none) E (by simp only [List.size_toArray]; omega)
      ⟨hz, hTI, hTO, ⟨h1, px.isList⟩, ⟨h2, py.isList⟩, ⟨h3, pz.isList⟩⟩ ?_) (fun r s1 h => h) fun _ _ e => e
    rintro v h' tk ⟨T, x1, y1, z1, rfl, hT, ex, ey, ez, tT⟩ ⟨hz', hTI', hTO', ⟨h1', _⟩, ⟨h2', _⟩, ⟨h3', _⟩⟩ keep htk
    have ex1 : x1 = ux := by rw [List.getElem?_toArray, hux] at ex; exact (Option.some.inj ex).symm
    have ey1 : y1 = uy := by rw [List.getElem?_toArray, huy] at ey; exact (Option.some.inj ey).symm
    have ez1 : z1 = uz := by rw [List.getElem?_toArray, huz] at ez; exact (Option.some.inj ez).symm
    subst ex1 ey1 ez1
    have new : ObjOk X.prog X.w (upd H T (.tup [x, y, z])) h' T (.tup [x, y, z]) := ⟨by show 3 ≤ sizeLine; decide, [x1, y1, z1], .cons vx (.cons vy (.cons vz .nil)), tT⟩
    have I1 : Inv X pins σ (upd H T (.tup [x, y, z])) { s with heap := h', toks := tk } :=
      I.turnedNew (ch := [N + 5, N + 3, N + 4, N, N + 1, N + 2]) (fun q o hb e => keep q o (fun z => hb (by
        have : q = N + 5 ∨ q = N + 4 ∨ q = N ∨ q = N + 1 ∨ q = N + 2 := by simpa using z
        rcases this with r | r | r | r | r <;> rw [r] <;> simp)) e) hf hT new
    refine ⟨.ref T, _, I1, rfl, ⟨T, x, y, z, rfl, I.hok.fresh hT, rfl, fun l hl => by rw [I.list_inj hl qx]; exact hx, fun l hl => by rw [I.list_inj hl qy]; exact hy, fun l hl => by rw [I.list_inj hl qz]; exact hzz⟩, ⟨hz', hTI', hTO', h1', h2', h3'⟩, fun q hq => ?_⟩
    have hlt : q < s.heap.objs.size := by
      obtain ⟨o1, e1, _⟩ := h1
      obtain ⟨o2, e2, _⟩ := h2
      obtain ⟨o3, e3, _⟩ := h3
      obtain ⟨_, _, _, e4⟩ := hTO
      have e' : q = N + 5 ∨ q = N + 3 ∨ q = N + 4 ∨ q = N ∨ q = N + 1 ∨ q = N + 2 := by simpa using hq
      rcases e' with r | r | r | r | r | r
      · rw [r]; exact Heap.lt_size hz
      · rw [r]; exact Heap.lt_size hTI
      · rw [r]; exact Heap.lt_size e4
      · rw [r]; exact Heap.lt_size e1
      · rw [r]; exact Heap.lt_size e2
      · rw [r]; exact Heap.lt_size e3
    rw [upd_ne (Nat.ne_of_lt (Nat.lt_of_lt_of_le hlt hT))]
    exact (hf q hq).1
  done := by
    intro X hP hw hK hcm i pins s σ H E I hf st hg
    subst hP hw hK
    obtain ⟨hz, hTI, hTO, h1, h2, h3⟩ := st
    obtain ⟨xs, ys, zs, qx, qy, qz, hend⟩ := hg
    obtain ⟨ix, rx, px, _⟩ := I.list qx
    obtain ⟨iy, ry, py, _⟩ := I.list qy
    obtain ⟨iz, rz, pz, _⟩ := I.list qz
    have hh : X.A.in1.handled = none := I.ok.hd hcm
    have sep := zip_sep3 (N := N) (fp1 := [a]) (fp2 := [b]) (fp3 := [c]) (fun q hq => by rw [List.mem_singleton.mp hq]; exact ha) (fun q hq => by rw [List.mem_singleton.mp hq]; exact hb) (fun q hq => by rw [List.mem_singleton.mp hq]; exact hc)
    have G := GoesN.zip3 (prog := X.prog) (w := X.w) (A := X.A) (elts := elts) (x1 := kk) (pos := tpos) sep (Draws.list hh N a (Nat.ne_of_lt ha) ix.toArray) (Draws.list hh (N + 1) b (by have : b < N := hb; exact Nat.ne_of_lt (Nat.lt_succ_of_lt this)) iy.toArray) (Draws.list hh (N + 2) c (by have : c < N := hc; exact Nat.ne_of_lt (Nat.lt_succ_of_lt (Nat.lt_succ_of_lt this))) iz.toArray)
    have en : i = min (min ix.toArray.size iy.toArray.size) iz.toArray.size := by
      simp only [List.size_toArray]
      rw [← rx.length, ← ry.length, ← rz.length]; exact hend
    subst en
    refine G.stops s (fun s1 => Inv X pins σ H s1) E ⟨hz, hTI, hTO, ⟨h1, px.isList⟩, ⟨h2, py.isList⟩, ⟨h3, pz.isList⟩⟩ fun h' tk keep htk => ?_
    exact I.turnedL (ch := [N + 5, N + 3, N + 4, N, N + 1, N + 2]) (fun q o hb e => keep q o (fun z => hb (by
        have : q = N + 5 ∨ q = N + 4 ∨ q = N ∨ q = N + 1 ∨ q = N + 2 := by simpa using z
        rcases this with r | r | r | r | r <;> rw [r] <;> simp)) e) hf
  self := fun A i s Q E st h => wpAny_pyIter_zip st.1 h
def iZip3 (K : PySem.W.Frag) (ta : TA) : TI := fun σ H R => ta σ H fun vs H1 => ∃ a b c xs ys zs, vs = [.ref a, .ref b, .ref c] ∧ SqL K H1 a xs ∧ SqL K H1 b ys ∧ SqL K H1 c zs ∧ R (Itz3 K a b c) H1
theorem pi_zip3 {X : Cx} {e e2 e3 : Expr} {ta : TA} {p pos tpos : Pos} {elts : List Expr} {kk : Nat} (hg : Gl X "zip") (hm : X.mg "zip" = none) (ha : PA X [e, e2, e3] ta)
    (hs : starEach [e, e2, e3] X.env = (false, eval e X.env) :: starEach [e2, e3] X.env := by rfl) (hpl : (backTo pos (starEach [e2, e3] X.env)).any (·.1) = false := by rfl) :
    PI X (.Tuple elts kk tpos) (.Call (.Name "zip" p) [e, e2, e3] [] pos) (iZip3 X.K ta) := by
  refine ⟨fun pins s σ H R I h => ?_⟩
  refine Call_ (ld_blt I hg hm PyProof.Rows.boot_zip (PyProof.Rows.callWith_type1 (thn (ha.run pos pins s σ H _ I h) fun us s1 ⟨vs, H1, I1, r1, q1⟩ => ?_) hs hpl))
  obtain ⟨a, b, c, xs, ys, zs, rfl, qx, qy, qz, q⟩ := q1
  obtain ⟨u1, r2, rfl, v1, r1⟩ : ∃ u r, us = u :: r ∧ RelV (.ref a) u ∧ Vals [.ref b, .ref c] r := by cases r1 with | cons h t => exact ⟨_, _, rfl, h, t⟩
  obtain ⟨u2, u3, rfl, v2, v3⟩ := vals2 r1
  cases v1; cases v2; cases v3
  obtain ⟨ix, rx, px, _⟩ := I1.list qx
  obtain ⟨iy, ry, py, _⟩ := I1.list qy
  obtain ⟨iz, rz, pz, _⟩ := I1.list qz
  refine zip_begins3 (begins_list a ix.toArray) (begins_list b iy.toArray) (begins_list c iz.toArray) px.isList py.isList pz.isList fun h' hz hTI hTO g1 g2 g3 hsz hk => wpAny_pyIter_zip hz ?_
  have I2 : Inv X pins σ H1 { s1 with heap := h' } := I1.kept (t' := s1.toks) hk
  refine ⟨s1.heap.objs.size + 5, [s1.heap.objs.size + 5, s1.heap.objs.size + 3, s1.heap.objs.size + 4, s1.heap.objs.size, s1.heap.objs.size + 1, s1.heap.objs.size + 2], _, _, H1, rfl, I2, turn_zip3 px.lt py.lt pz.lt, ⟨hz, hTI, ⟨_, _, _, hTO⟩, ⟨_, g1, rfl, rfl⟩, ⟨_, g2, rfl, rfl⟩, ⟨_, g3, rfl, rfl⟩⟩, fun q hq => ?_, q⟩
  have e' : q = s1.heap.objs.size + 5 ∨ q = s1.heap.objs.size + 3 ∨ q = s1.heap.objs.size + 4 ∨ q = s1.heap.objs.size ∨ q = s1.heap.objs.size + 1 ∨ q = s1.heap.objs.size + 2 := by simpa using hq
  have hle : s1.heap.objs.size ≤ q := by
    rcases e' with z | z | z | z | z | z
    · rw [z]; exact Nat.le_add_right _ _
    · rw [z]; exact Nat.le_add_right _ _
    · rw [z]; exact Nat.le_add_right _ _
    · rw [z]; exact Nat.le_refl _
    · rw [z]; exact Nat.le_add_right _ _
    · rw [z]; exact Nat.le_add_right _ _
  exact I1.fpOk hle (I1.hok.fresh hle)
section
variable {K : PySem.W.Frag} {H0 H : Hp} {T : List (Addr × Str)} {L : List Cell} {a b c : Addr} {xs ys zs : List V} {σ : L2.St} {ta : TA} {k1 k2 k3 : Nat} {s : TS} {D : Ends}
def ItZ3 (K : PySem.W.Frag) (vs : List V) (H1 : Hp) (R : It → Hp → Prop) : Prop := ∃ a b c xs ys zs, vs = [.ref a, .ref b, .ref c] ∧ SqL K H1 a xs ∧ SqL K H1 b ys ∧ SqL K H1 c zs ∧ R (Itz3 K a b c) H1
theorem s_iZip3 {R : It → Hp → Prop} (k : ta σ H fun vs H1 => ItZ3 K vs H1 R) : iZip3 K ta σ H R := k
theorem s_itZ3 {R : It → Hp → Prop} (h1 : SqL K H a xs) (h2 : SqL K H b ys) (h3 : SqL K H c zs) (k : R (Itz3 K a b c) H) : ItZ3 K [.ref a, .ref b, .ref c] H R := ⟨_, _, _, _, _, _, rfl, h1, h2, h3, k⟩
theorem s_forZ3 (Pv : Nat → L2.St → List Cell → Prop) (xs ys zs : List V) (l1 : xs.length = ys.length) (l2 : ys.length = zs.length) (B : Own H0 H T L) (start : Pv 0 σ L) (stays : ∀ i σ L H, Pv i σ L → Own H0 H T L → SqL K H a xs ∧ SqL K H b ys ∧ SqL K H c zs)
    (turn : ∀ i x y z σ L H, xs[i]? = some x → ys[i]? = some y → zs[i]? = some z → Pv i σ L → Own H0 H T L → s { D with nx := Inn H0 T (Pv (i + 1)), ct := Inn H0 T (Pv (i + 1)), bk := D.nx } (((σ.set k1 (some x)).set k2 (some y)).set k3 (some z)) H)
    (last : ∀ σ L H, Pv xs.length σ L → Own H0 H T L → D.nx σ H) : ForG (Itz3 K a b c) (gTup K 3 (gCons (gName k1) (gCons (gName k2) (gCons (gName k3) gNil)))) s D σ H := by
  refine ⟨fun i m σ H => m = xs.length - i ∧ i ≤ xs.length ∧ Inn H0 T (Pv i) σ H, ⟨xs.length, rfl, Nat.zero_le _, L, start, B⟩, ?_⟩
  rintro i m σ H ⟨em, le, M, h, B⟩
  obtain ⟨s1, s2, s3⟩ := stays i σ M H h B
  rcases Nat.lt_or_ge i xs.length with lt | ge
  · have at1 : xs[i]? = some xs[i] := List.getElem?_eq_getElem lt
    have at2 : ys[i]? = some (ys[i]'(by omega)) := List.getElem?_eq_getElem (by omega)
    have at3 : zs[i]? = some (zs[i]'(by omega)) := List.getElem?_eq_getElem (by omega)
    refine Or.inr ⟨⟨xs, ys, zs, _, _, _, s1, s2, s3, at1, at2, at3⟩, Inn H0 T (Pv (i + 1)), fun σ' H' p' => ⟨xs.length - (i + 1), by omega, rfl, lt, p'⟩, ?_⟩
    rintro v H' ⟨tp, x, y, z, e1, nT, e2, f1, f2, f3⟩
    have ex := f1 xs s1
    have ey := f2 ys s2
    have ez := f3 zs s3
    subst e1 e2
    exact ⟨tp, _, rfl, SqT.of upd_same, rfl, _, _, rfl, _, _, rfl, _, _, rfl, rfl, turn i x y z σ M _ ex ey ez h (B.new (o := .tup [x, y, z]) nT trivial).tail⟩
  · have e : i = xs.length := by omega
    subst e
    exact Or.inl ⟨⟨xs, ys, zs, s1, s2, s3, by omega⟩, last σ M H h B⟩
end
end My
namespace My
open PySem PySem.Spec PyProof.Rows L2 LamX
section
variable {K : PySem.W.Frag} {H0 H : Hp} {T : List (Addr × Str)} {L L' M : List Cell} {a d : Addr} {kvs : List (Key × V)} {xs : List V} {σ : L2.St} {Q : VK} {te td ty tx tk tv : TE} {v : V} {D : Ends} {tb : TS}
/-! for x in reversed(xs) -/
def ItRv (K : PySem.W.Frag) (v : V) (H1 : Hp) (R : It → Hp → Prop) : Prop := ∃ (a : Addr) (xs : List V), v = .ref a ∧ ((SqL K H1 a xs ∧ R (Itv K a xs.length) H1) ∨ (SqT K H1 a xs ∧ R (RT.ItvT K a xs.length) H1))
theorem s_iRev {R : It → Hp → Prop} (k : te σ H fun v H1 => ItRv K v H1 R) : RT.iRevA K te σ H R := k
theorem s_itRev {R : It → Hp → Prop} (h : H a = some (.lst xs)) (k : R (Itv K a xs.length) H) : ItRv K (.ref a) H R := ⟨a, xs, rfl, .inl ⟨SqL.of h, k⟩⟩
theorem s_forV {kx : Nat} (Pv : Nat → L2.St → List Cell → Prop) (xs : List V) (B : Own H0 H T L) (start : Pv 0 σ L) (stays : ∀ i σ L H, Pv i σ L → Own H0 H T L → SqL K H a xs)
    (turn : ∀ i x σ L H, i < xs.length → xs[xs.length - 1 - i]? = some x → Pv i σ L → Own H0 H T L → tb { D with nx := Inn H0 T (Pv (i + 1)), ct := Inn H0 T (Pv (i + 1)), bk := D.nx } (σ.set kx (some x)) H)
    (last : ∀ σ L H, Pv xs.length σ L → Own H0 H T L → D.nx σ H) : ForG (Itv K a xs.length) (gName kx) tb D σ H := by
  refine ⟨fun i m σ H => m = xs.length - i ∧ i ≤ xs.length ∧ Inn H0 T (Pv i) σ H, ⟨xs.length, rfl, Nat.zero_le _, L, start, B⟩, ?_⟩
  rintro i m σ H ⟨em, le, M, h, B⟩
  have s1 := stays i σ M H h B
  rcases Nat.lt_or_ge i xs.length with lt | ge
  · have at1 : xs[xs.length - 1 - i]? = some (xs[xs.length - 1 - i]'(by omega)) := List.getElem?_eq_getElem (by omega)
    refine Or.inr ⟨⟨lt, xs, _, s1, at1⟩, Inn H0 T (Pv (i + 1)), fun σ' H' p' => ⟨xs.length - (i + 1), by omega, rfl, lt, p'⟩, ?_⟩
    rintro x H' ⟨rfl, f1⟩
    exact turn i x σ M _ lt (f1 xs s1) h B
  · have e : i = xs.length := by omega
    subst e
    exact Or.inl ⟨Nat.le_refl _, last σ M H h B⟩
/-! d.get(x, y) -/
def G2At (x : V) (ty tx : TE) (σ : L2.St) (H1 : Hp) (Q : VK) : Prop := ∃ a, x = .ref a ∧ IsD H1 a ∧ ty σ H1 fun y H2 => tx σ H2 fun z H3 => ∃ o, DGet H3 a y o ∧ Q (o.getD z) H3
def G2End (a : Addr) (y z : V) (H : Hp) (Q : VK) : Prop := ∃ o, DGet H a y o ∧ Q (o.getD z) H
theorem s_get2S (k : td σ H fun x H1 => G2At x ty tx σ H1 Q) : tDGet2 td ty tx σ H Q := k
theorem s_get2T (h : H a = some (.dK kvs)) (k : ty σ H fun y H2 => tx σ H2 fun z H3 => G2End a y z H3 Q) : G2At (.ref a) ty tx σ H Q := ⟨a, rfl, .inl ⟨kvs, .inl h⟩, k⟩
theorem s_get2 {x : Int} {z : V} (h : H a = some (.dK kvs)) (k : Q ((valV kvs (.inl x)).getD z) H) : G2End a (.int x) z H Q := ⟨_, DGet.k (k := .inl x) h, k⟩
/-! {k: v} -/
def DispAt (p : Addr) (x y : V) (H2 : Hp) (Q : VK) : Prop := H2 p = some (.dK []) ∧ ∃ kvs : List (Key × V), [(x, y)] = kvs.map (fun kv => (kV kv.1, kv.2)) ∧ kvs.length ≤ 15 ∧ Q (.ref p) (upd H2 p (.dK (mergeK [] kvs)))
theorem s_disp1 (B : Own H0 H T L) (k : ∀ p H', Own H0 H' T (.ob p (.dK []) :: L) → tk σ H' fun x H1 => tv σ H1 fun y H2 => DispAt p x y H2 Q) : tDisp [(tk, tv)] σ H Q := fun p n => k p _ (B.new n trivial)
theorem s_disp {p : Addr} {x : Int} {y : V} (B : Own H0 H T (.ob p (.dK []) :: L)) (k : ∀ H', Own H0 H' T (.ob p (.dK [(.inl x, y)]) :: L) → Q (.ref p) H') : DispAt p (.int x) y H Q :=
  ⟨B.get p, [(.inl x, y)], rfl, show 1 ≤ 15 from by decide, k _ (B.wr trivial)⟩
/-! for k in d -/
theorem s_forK {i kx : Nat} (Pv : Nat → L2.St → List Cell → Prop) (B : Own H0 H T L) (d : Addr) [P : Pull L d (.ob d (.dK kvs)) L'] (hσ : σ[i]? = some (some (.ref d))) (start : Pv 0 σ L')
    (turn : ∀ rt bk od j k v σ M H, kvs[j]? = some (k, v) → Pv j σ M → Own H0 H T (.ob d (.frz od (.dK kvs)) :: M) →
      tb ⟨Inn H0 T (fun σ N => ∃ M, N = .ob d (.frz od (.dK kvs)) :: M ∧ Pv (j + 1) σ M), rt, bk, Inn H0 T (fun σ N => ∃ M, N = .ob d (.frz od (.dK kvs)) :: M ∧ Pv (j + 1) σ M)⟩ (σ.set kx (some (kV k))) H)
    (last : ∀ σ M H, Pv kvs.length σ M → Own H0 H T (.ob d (.dK kvs) :: M) → D.nx σ H) : tLock (tFor (iKeys (tVar i)) (gName kx) tb) D σ H := by
  refine ⟨d, .dK kvs, B.get d, trivial, fun od => ?_⟩
  have BF : Own H0 (upd H d (.frz od (.dK kvs))) T (.ob d (.frz od (.dK kvs)) :: L') := (B.perm P.p).wr trivial
  refine ⟨.ref d, hσ, d, od, rfl, .inl ⟨kvs, upd_same, ?_⟩⟩
  refine ⟨fun j m σ H => m = kvs.length - j ∧ j ≤ kvs.length ∧ Inn H0 T (fun σ N => ∃ M, N = .ob d (.frz od (.dK kvs)) :: M ∧ Pv j σ M) σ H, ⟨kvs.length, rfl, Nat.zero_le _, _, ⟨_, rfl, start⟩, BF⟩, ?_⟩
  rintro j m σ1 H1 ⟨em, le, N, ⟨M, rfl, h⟩, B1⟩
  have fz : H1 d = some (.frz od (.dK kvs)) := B1.head.1
  rcases Nat.lt_or_ge j kvs.length with lt | ge
  · refine Or.inr ⟨⟨fz, lt⟩, Inn H0 T (fun σ N => ∃ M, N = .ob d (.frz od (.dK kvs)) :: M ∧ Pv (j + 1) σ M), fun σ' H' p' => ⟨kvs.length - (j + 1), by omega, rfl, lt, p'⟩, ?_⟩
    rintro x H' ⟨rfl, k, v, e1, rfl⟩
    exact turn _ _ od j k v σ1 M _ e1 h B1
  · have e : j = kvs.length := by omega
    subst e
    exact Or.inl ⟨⟨fz, Nat.le_refl _⟩, fz, last σ1 M _ h (B1.wr trivial)⟩
end
end My
namespace My
open PySem PySem.Spec PyProof.Rows L2
/-! xs < ys, lists of ints -/
def lexL : List Int → List Int → Bool
  | [], [] => false
  | [], _ :: _ => true
  | _ :: _, [] => false
  | x :: xs, y :: ys => if x = y then lexL xs ys else decide (x < y)
theorem lexL_eq : ∀ xs ys : List Int, PySem.W.listLt xs ys = lexL xs ys
  | [], [] => rfl
  | [], _ :: _ => rfl
  | _ :: _, [] => rfl
  | x :: xs, y :: ys => by
    show (if x = y then PySem.W.listLt xs ys else decide (x < y)) = if x = y then lexL xs ys else decide (x < y)
    rw [lexL_eq xs ys]
def rLtL (K : PySem.W.Frag) : R2 := fun x y H Q => ∃ ns ms : List Int, Dp K H x (dI ns) ∧ Dp K H y (dI ms) ∧ Q (.bl (lexL ns ms)) H
theorem op_ltL {X : Cx} (hu : X.A.units + 64 < cLine) : OpR X (compareOp .Lt) (rLtL X.K) := by
  intro pins s σ H x y v u Q I rx ry h
  obtain ⟨ns, ms, hd, he, q⟩ := h
  obtain ⟨as, r1⟩ := Dp.reads I (dI ns) x v hd rx
  obtain ⟨bs, r2⟩ := Dp.reads I (dI ms) y u he ry
  have e : PySem.W.dataLt (dI ns) (dI ms) = lexL ns ms := (PySem.W.DatumOrd.lt_eq (α := List Int) ns ms).trans (lexL_eq ns ms)
  refine PySem.W.lt_data r1 r2 (PySem.W.DatumOrd.alike (α := List Int) ns ms) (fun z => by cases z) (by have := dI_depth ns; have := Nat.min_le_left (dI ns).depth (dI ms).depth; omega) ⟨.bl _, H, I, ?_, q⟩
  rw [e]
  exact rfl
section
variable {K : PySem.W.Frag} {H : Hp} {a b : Addr} {ns ms : List Int} {Q : VK}
theorem s_ltL (h1 : H a = some (.lst (ns.map V.int))) (h2 : H b = some (.lst (ms.map V.int))) (k : Q (.bl (lexL ns ms)) H) : rLtL K (.ref a) (.ref b) H Q := ⟨ns, ms, dpI (SqL.of h1), dpI (SqL.of h2), k⟩
end
end My
namespace My
open PySem PySem.Spec PyProof.Rows L2
def topS (i : Nat) : Stmt := PySem.Challenge.pw_leastheads_k21_many_families_with_length.main.body.getD i (.Pass ⟨0, 0, 0, 0⟩)
abbrev sInt : Stmt := topS 8
abbrev sIsIndex : Stmt := topS 9
abbrev sRequireIndex : Stmt := topS 10
abbrev sNums : Stmt := topS 11
abbrev sFam : Stmt := topS 12
abbrev sReq : Stmt := topS 13
abbrev sReqF : Stmt := topS 14
abbrev sSplit : Stmt := topS 15
abbrev sPlaced : Stmt := topS 16
abbrev sMergeQ : Stmt := topS 17
abbrev sSpreadBlocks : Stmt := topS 18
abbrev sMerged : Stmt := topS 19
abbrev sRankOf : Stmt := topS 22
abbrev sAreLengths : Stmt := topS 23
abbrev sRequireLengths : Stmt := topS 24
abbrev sSlotsOf : Stmt := topS 25
abbrev sFullRoom : Stmt := topS 26
abbrev sRoomIn : Stmt := topS 27
abbrev sWaysBefore : Stmt := topS 28
abbrev sWaysOf : Stmt := topS 29
abbrev sOptionsIn : Stmt := topS 30
abbrev sCountWithLengths : Stmt := topS 31
abbrev sNthWithLengths : Stmt := topS 32
abbrev sLawCan : Stmt := topS 34
abbrev sLawScoop : Stmt := topS 35
abbrev sLawMultinomial : Stmt := topS 36
abbrev sLawParts : Stmt := topS 37
abbrev sLawRight : Stmt := topS 38
abbrev sLaw : Stmt := topS 39
/-- the built-in names that stay built in -/
structure Txt (mg : Str → Option Value) : Prop where
  isi : mg "isinstance" = none
  int : mg "int" = none
  bool : mg "bool" = none
  list : mg "list" = none
  all : mg "all" = none
  len : mg "len" = none
  set : mg "set" = none
  max : mg "max" = none
  min : mg "min" = none
  range : mg "range" = none
  enum : mg "enumerate" = none
  repr : mg "repr" = none
  sorted : mg "sorted" = none
  tuple : mg "tuple" = none
  zip : mg "zip" = none
  reversed : mg "reversed" = none
  sum : mg "sum" = none
  str : mg "str" = none
  any : mg "any" = none
  abs : mg "abs" = none
  divmod : mg "divmod" = none
  dict : mg "dict" = none
  g_MOST_CASES : ∃ t, mg "MOST_CASES" = some (Value.int 20000 t)
end My
namespace My
open PySem PySem.Spec PyProof.Rows L2
theorem scInt : FnScope ["value"] ["value"] (defScope sInt) := ⟨rfl, rfl, rfl, by decide +kernel, rfl, by decide +kernel, by decide +kernel⟩
theorem scNums : FnScope ["value", "number"] ["value"] (defScope sNums) := ⟨rfl, rfl, rfl, by decide +kernel, rfl, by decide +kernel, by decide +kernel⟩

section
variable {P : Program} {w : World} {K : PySem.W.Frag} {mg : Str → Option Value} {base : Heap}

theorem kit_ii : PySem.W.kitOne K (.type "int") (.type "int") = some true := kit_ty (by decide +kernel)
theorem kit_ib : PySem.W.kitOne K (.type "int") (.type "bool") = some false := kit_ty (by decide +kernel)
theorem kit_ll : PySem.W.kitOne K (.type "list") (.type "list") = some true := kit_ty (by decide +kernel)

/-- an int is an integer -/
def spInt : Sp := fun vs H Q _ => ∃ i : Int, vs = [.int i] ∧ Q (.bl true) H
theorem ok_int {f : Addr} {fd : FuncData} {k : Nat} (F : Fun K "is_integer" "is_integer" sInt f fd) (T : Txt mg) : FnOk P w K mg base CX0 (k + 1) f fd ["value"] spInt := by
  refine F.ok scInt (fun vs H Q E h => ?_) (fun cdv A outer s H vs Q E hr h => ?_)
  · obtain ⟨i, rfl, _⟩ := h
    rfl
  · obtain ⟨i, rfl, q⟩ := h
    refine ⟨_, pss_one (ps_ret (pe_and
      (pe_callB call_isi (by rfl) T.isi (by decide +kernel) (pa_cons (pv 0) (pa_cons (pe_bltn (by rfl) T.int (by decide +kernel) (v := .ty "int") rfl) pa_nil)))
      (pe_one (pe_not (pe_callB call_isi (by rfl) T.isi (by decide +kernel) (pa_cons (pv 0) (pa_cons (pe_bltn (by rfl) T.bool (by decide +kernel) (v := .ty "bool") rfl) pa_nil))))))), ?_⟩
    refine ⟨.int i, rfl, .int i, .ty "int", .type "int", .type "int", true, rfl, .ty _, .base (.int i), kit_ii, true, rfl, iteT ?_⟩
    exact ⟨.int i, rfl, .int i, .ty "bool", .type "int", .type "bool", false, rfl, .ty _, .base (.int i), kit_ib, false, rfl, q⟩

/-- a list of different ints is a list of numbers -/
def spNums : Sp := fun vs H Q _ => ∃ (a : Addr) (ns : List Int), vs = [.ref a] ∧ H a = some (.lst (ns.map V.int)) ∧ ns.Nodup ∧ ns.length ≤ 4000 ∧ ∀ H', Same H H' → Q (.bl true) H'
theorem ok_nums {f fI : Addr} {fd fdI : FuncData} {k : Nat} (F : Fun K "is_numbers" "is_numbers" sNums f fd) (T : Txt mg)
    (FI : Fun K "is_integer" "is_integer" sInt fI fdI) (gI : mg "is_integer" = some (.ref fI)) (bI : Binds K fdI ["value"] []) : FnOk P w K mg base CX0 (k + 2) f fd ["value"] spNums := by
  have GI : FnOk P w K mg base CX0 (k + 1) fI fdI ["value"] spInt := ok_int FI T
  refine F.ok scNums (fun vs H Q E h => ?_) (fun cdv A outer s H vs Q E hr h => ?_)
  · obtain ⟨a, ns, rfl, _⟩ := h
    rfl
  · obtain ⟨a, ns, rfl, hS, nd, hl, q⟩ := h
    refine ⟨_, pss_cons (ps_if (pt_not (pt_val (pe_callB call_isi (by rfl) T.isi (by decide +kernel) (pa_cons (pv 0) (pa_cons (pe_bltn (by rfl) T.list (by decide +kernel) (v := .ty "list") rfl) pa_nil))))) (pss_one (ps_ret pe_bl)) pss_nil)
      (pss_cons (ps_if (pt_not (pt_val (pe_callB (cr_all rfl) (by rfl) T.all (by decide +kernel) (pa_cons
          (pe_lc (own := [("number", 1)]) (g := gName 1) (by rfl) scNums.nd (pi_list (pv 0)) (blkOk_by (own := [("number", 1)]) (N := ["value", "number"]) (sc := defScope sNums) (by decide +kernel))
            (fun _ _ _ _ _ => pg_name (i := 1) scNums.nd rfl (Or.inl rfl)) (fun _ _ _ _ _ => pts_nil)
            (fun _ _ _ _ _ => pe_call GI hr (by rfl) gI FI.kp bI .nil pass0 (pa_cons (pv 1) pa_nil))) pa_nil)))) (pss_one (ps_ret pe_bl)) pss_nil)
      (pss_one (ps_ret (pe_cmpR op_eq (RZ.pe_lenSetI (by rfl) T.len (by rfl) T.set (pv 0)) (pe_callB call_len_seq (by rfl) T.len PySem.boot_len (pa_cons (pv 0) pa_nil)) (nomark _))))), ?_⟩
    refine ⟨.ref a, rfl, .ref a, .ty "list", .type "list", .type "list", true, rfl, .ty _, .base (.lst hS), kit_ll, true, rfl, iteF ?_⟩
    refine ⟨.ref a, rfl, a, rfl, ⟨_, SqL.of hS⟩, fun D nD => ?_⟩
    have na : a ≠ D := ne_of_none hS nD
    refine lc_list (K := K) (a := a) (xs := ns.map V.int) (fun i H' => Same H H' ∧ H' D = some (.lst ((List.replicate i true).map V.bl))) ?_ ?_ ?_ ?_
    · refine ⟨fun b o e => ?_, upd_same⟩
      rw [upd_ne (ne_of_none e nD)]; exact e
    · intro i H' _ hP
      exact SqL.of (hP.1 _ _ hS)
    · intro i x H' hx hP
      refine ⟨rfl, ?_⟩
      rw [List.getElem?_map] at hx
      obtain ⟨n, _, rfl⟩ := Option.map_eq_some_iff.mp hx
      have hi : i < ns.length := by
        rcases Nat.lt_or_ge i ns.length with z | z
        · exact z
        · rw [List.getElem?_eq_none z] at hx; cases hx
      refine iteT (B := Same H H' ∧ H' D = some (HO.lst (List.map V.bl (List.replicate (i + 1) true)))) ?_
      refine ⟨.int n, rfl, n, rfl, _, hP.2, ?_, ?_, ?_⟩
      · rw [List.length_map, List.length_replicate]
        unfold sizeLine; omega
      · intro b o e
        rw [upd_ne (ne_of_none e nD)]
        exact hP.1 b o e
      · rw [upd_same, List.replicate_succ', List.map_append]
        rfl
    · intro H' hP
      refine ⟨D, _, rfl, SqL.of hP.2, ?_⟩
      have ea : (List.replicate (ns.map V.int).length true).all id = true := by simp
      rw [ea]
      refine ⟨true, rfl, iteF ?_⟩
      have hS' : H' a = some (.lst (ns.map V.int)) := hP.1 _ _ hS
      refine ⟨.ref a, rfl, a, ns, rfl, SqL.of hS', nd, hl, .ref a, rfl, a, ns.map V.int, rfl, Or.inl (SqL.of hS'), rfl, ?_⟩
      have e2 : decide (V.int (ns.length : Nat) = V.int ((ns.map V.int).length : Nat)) = true := by
        rw [List.length_map]
        exact decide_eq_true rfl
      rw [e2]
      exact q H' hP.1

end
end My
namespace My
open PySem PySem.Spec PyProof.Rows L2
theorem scSplit : FnScope ["numbers", "blocks", "number"] ["numbers"] (defScope sSplit) := ⟨rfl, rfl, rfl, by decide +kernel, rfl, by decide +kernel, by decide +kernel⟩

/-- new rows at new addresses, the list of them at p -/
structure NewRows (H H' : Hp) (p : Addr) (qs : List Addr) (bs : List (List V)) : Prop where
  same : Same H H'
  fresh : ∀ q ∈ qs, H q = none
  freshp : H p = none
  top : H' p = some (.lst (qs.map V.ref))
  off : p ∉ qs
  rows : Rws H' qs bs
theorem atI_last1 {qs : List Addr} {q : Addr} : atI ((qs ++ [q]).map V.ref) (-1) = some (.ref q) := by
  rw [List.map_append]
  exact atI_last _ _

section
variable {P : Program} {w : World} {K : PySem.W.Frag} {mg : Str → Option Value} {base : Heap}
def spSplit : Sp := fun vs H Q _ => ∃ (a : Addr) (ns : List Int), vs = [.ref a] ∧ H a = some (.lst (ns.map V.int)) ∧ ns.length ≤ 4000 ∧
  ∀ H' p qs, NewRows H H' p qs (vv (cut ns)) → Q (.ref p) H'
theorem ok_split {f : Addr} {fd : FuncData} {k : Nat} (F : Fun K "split_blocks" "split_blocks" sSplit f fd) (T : Txt mg) : FnOk P w K mg base CX0 (k + 1) f fd ["numbers"] spSplit := by
  refine F.ok scSplit (fun vs H Q E h => ?_) (fun cdv A outer s H vs Q E hr h => ?_)
  · obtain ⟨a, ns, rfl, _⟩ := h
    rfl
  · obtain ⟨a, ns, rfl, hS, hl, q⟩ := h
    refine ⟨_, pss_cons (ps_set (i := 1) scSplit.nd rfl (.inl rfl) (pe_lst pa_nil))
      (pss_cons (ps_for PassesOwn.never rfl (pi_list (pv 0)) (pg_name (i := 2) scSplit.nd rfl (.inl rfl))
        (pss_one (ps_if (PW.pt (pw_or (pt_cmpR op_eq (pe_callB call_len_seq (by rfl) T.len PySem.boot_len (pa_cons (pv 1) pa_nil)) pe_int (nomark _))
            (pw_or1 (pt_cmpR op_gt (pv 2) (pe_ix ix_list (pe_ix ix_list (pv 1) (pe_un un_neg pe_int) (fun _ _ => rfl)) pe_int (fun _ _ => rfl)) (nomark _)))))
          (pss_one (ps_expr (pe_bm PySem.F.plainAttrs_list PySem.F.slot_list_append PySem.F.type_list_append mt_append (pv 1) (pa_cons (pe_lst (pa_cons (pv 2) pa_nil)) pa_nil))))
          (pss_one (ps_expr (pe_bm PySem.F.plainAttrs_list PySem.F.slot_list_append PySem.F.type_list_append mt_append (pe_ix ix_list (pv 1) (pe_un un_neg pe_int) (fun _ _ => rfl)) (pa_cons (pv 2) pa_nil)))))))
      (pss_one (ps_ret (pv 1)))), ?_⟩
    refine ⟨Nat.zero_le _, fun p np => ?_⟩
    have nap : a ≠ p := ne_of_none hS np
    refine ⟨.ref a, rfl, a, rfl, ⟨_, SqL.of (by rw [upd_ne nap]; exact hS)⟩, for_list (K := K) (a := a) (xs := ns.map V.int)
      (fun i σ H' => ∃ y qs, σ = [some (.ref a), some (.ref p), y] ∧ NewRows H H' p qs (vv (cut (ns.take i)))) ⟨none, [], rfl, sameN np, by simp, np, upd_same, by simp, Rws.nil⟩ ?_ ?_ ?_⟩
    · rintro i σ H' _ ⟨y, qs, _, N⟩
      exact SqL.of (N.same _ _ hS)
    · rintro i x σ H' hx ⟨y, qs, rfl, N⟩
      rw [List.getElem?_map] at hx
      obtain ⟨n, hn, rfl⟩ := Option.map_eq_some_iff.mp hx
      have hi : i < ns.length := (List.getElem?_eq_some_iff.mp hn).1
      have G := good_cut (ns.take i)
      have hlen : qs.length ≤ 4000 := by
        have h1 := N.rows.len
        rw [vv_len] at h1
        have h2 := G.len
        rw [List.length_take] at h2
        omega
      refine ⟨.ref p, rfl, p, _, rfl, .inl (SqL.of N.top), rfl, _, rfl, ?_⟩
      rcases G.last with e | ⟨ini, m, r, e, hm, hmax⟩
      · -- no block yet
        have hq : qs = [] := List.eq_nil_of_length_eq_zero (by rw [N.rows.len, vv_len, e]; rfl)
        subst hq
        refine iteT (iteT ?_)
        refine ⟨.ref p, rfl, .inl ⟨rfl, _, SqL.of N.top⟩, (.int n), rfl, (show 1 ≤ sizeLine by decide), fun q nq => ?_⟩
        have npq : p ≠ q := ne_of_none N.top nq
        refine ⟨p, _, _, rfl, rfl, by rw [upd_ne npq]; exact N.top, by decide, ?_⟩
        refine ⟨_, [q], rfl, same0 (same0 N.same (N.same.free nq)) N.freshp, ?_, N.freshp, upd_same, ?_, ?_⟩
        · intro z hz
          have e2 : z = q := by simpa using hz
          rw [e2]; exact N.same.free nq
        · intro z
          exact npq (by simpa using z)
        · rw [cut_take hn, e, put_nil]
          have R := (N.rows.push (b := [V.int n]) nq).off (o := .lst ([] ++ [V.ref q])) (p := p) (by intro z; exact npq (by simpa using z))
          rw [e] at R
          exact R
      · -- behind the last block or a new one
        have hv : vv (cut (ns.take i)) = vv ini ++ [(m :: r).map V.int] := by rw [e]; exact List.map_append ..
        have hql : qs.length = (vv ini).length + 1 := by rw [N.rows.len, hv, List.length_append]; rfl
        obtain ⟨qi, ql, hqe⟩ : ∃ qi ql, qs = qi ++ [ql] := by
          rcases List.eq_nil_or_concat qs with z | ⟨a1, b1, z⟩
          · rw [z] at hql; cases hql
          · exact ⟨a1, b1, by rw [z, List.concat_eq_append]⟩
        subst hqe
        have hqi : qi.length = (vv ini).length := by
          rw [List.length_append] at hql
          have : [ql].length = 1 := rfl
          omega
        have at1 : (qi ++ [ql])[qi.length]? = some ql := by simp
        have at2 : (vv (cut (ns.take i)))[qi.length]? = some ((m :: r).map V.int) := by rw [hv, hqi]; simp
        have hlast : H' ql = some (.lst ((m :: r).map V.int)) := N.rows.get _ _ _ at1 at2
        have npl : p ≠ ql := fun z => N.off (by rw [z]; simp)
        have e0 : decide (V.int ((qi ++ [ql]).map V.ref).length = V.int 0) = false := by
          apply decide_eq_false
          intro z
          have z2 := V.int.inj z
          rw [List.length_map, List.length_append] at z2
          have : [ql].length = 1 := rfl
          omega
        rw [e0]
        refine iteF ?_
        refine ⟨.int n, rfl, .ref p, rfl, 1, rfl, p, _, _, .ref ql, rfl, rfl, SqL.of N.top, atI_last1, ql, _, _, .int m, rfl, rfl, SqL.of hlast, atI_nat (j := 0) rfl, n, m, rfl, rfl, _, rfl, ?_⟩
        by_cases hlt : m < n
        · have e1 : decide (n > m) = true := decide_eq_true hlt
          rw [e1]
          refine iteT ?_
          refine ⟨.ref p, rfl, .inl ⟨rfl, _, SqL.of N.top⟩, (.int n), rfl, (show 1 ≤ sizeLine by decide), fun q nq => ?_⟩
          have npq : p ≠ q := ne_of_none N.top nq
          have nqs : q ∉ qi ++ [ql] := fun z => N.rows.there z nq
          refine ⟨p, _, _, rfl, rfl, by rw [upd_ne npq]; exact N.top, ?_, ?_⟩
          · rw [List.length_map]; unfold sizeLine; omega
          refine ⟨_, qi ++ [ql] ++ [q], rfl, same0 (same0 N.same (N.same.free nq)) N.freshp, ?_, N.freshp, ?_, ?_, ?_⟩
          · intro z hz
            rcases List.mem_append.mp hz with y | y
            · exact N.fresh z y
            · have e2 : z = q := by simpa using y
              rw [e2]; exact N.same.free nq
          · rw [upd_same, List.map_append (l₁ := qi ++ [ql])]
            rfl
          · intro z
            rcases List.mem_append.mp z with y | y
            · exact N.off y
            · exact npq (by simpa using y)
          · have hput : cut (ns.take (i + 1)) = (ini ++ [m :: r]) ++ [[n]] := by
              rw [cut_take hn, e, put_snoc]
              exact if_pos hlt
            rw [hput]
            have R := (N.rows.push (b := [V.int n]) nq).off (o := .lst ((qi ++ [ql]).map V.ref ++ [V.ref q])) (p := p) (by
              intro z
              rcases List.mem_append.mp z with y | y
              · exact N.off y
              · exact npq (by simpa using y))
            rw [e] at R
            have ev : vv (ini ++ [m :: r] ++ [[n]]) = vv (ini ++ [m :: r]) ++ [[V.int n]] := List.map_append ..
            rw [ev]
            exact R
        · have e1 : decide (n > m) = false := decide_eq_false hlt
          rw [e1]
          refine iteF ?_
          refine ⟨.ref p, rfl, 1, rfl, p, _, _, .ref ql, rfl, rfl, SqL.of N.top, atI_last1, .inl ⟨rfl, _, SqL.of hlast⟩, .int n, rfl, ql, _, _, rfl, rfl, hlast, ?_, ?_⟩
          · rw [List.length_map]
            have h1 := G.rowlen (b := m :: r) (by rw [e]; simp)
            rw [List.length_take] at h1
            unfold sizeLine; omega
          refine ⟨_, qi ++ [ql], rfl, same0 N.same (N.fresh ql (by simp)), N.fresh, N.freshp, ?_, N.off, ?_⟩
          · rw [upd_ne npl]; exact N.top
          · have hput : cut (ns.take (i + 1)) = ini ++ [(m :: r) ++ [n]] := by
              rw [cut_take hn, e, put_snoc]
              exact if_neg hlt
            rw [hput]
            have R := N.rows.put (b := (m :: r).map V.int ++ [V.int n]) at1
            rw [hv, hqi, List.set_append_right _ _ (Nat.le_refl _), Nat.sub_self] at R
            have ev : vv (ini ++ [(m :: r) ++ [n]]) = vv ini ++ [(m :: r).map V.int ++ [V.int n]] := by
              show (ini ++ [(m :: r) ++ [n]]).map _ = _
              rw [List.map_append, List.map_singleton, List.map_append]
              rfl
            rw [ev]
            exact R
    · rintro σ H' ⟨y, qs, rfl, N⟩
      rw [List.length_map, List.take_length] at N
      exact ⟨.ref p, rfl, q H' p qs N⟩

def spBlocks : Sp := fun vs H Q _ => ∃ (a : Addr) (ns : List Int), vs = [.ref a] ∧ H a = some (.lst (ns.map V.int)) ∧ ns.Nodup ∧ ns.length ≤ 4000 ∧
  ∀ H' p qs, NewRows H H' p qs (vv (cut ns)) → Q (.ref p) H'
end
end My
namespace My
open PySem PySem.Spec PyProof.Rows L2
theorem scFam : FnScope ["value", "queue", "number"] ["value"] (defScope sFam) := ⟨rfl, rfl, rfl, by decide +kernel, rfl, by decide +kernel, by decide +kernel⟩
theorem scReqF : FnScope ["value"] ["value"] (defScope sReqF) := ⟨rfl, rfl, rfl, by decide +kernel, rfl, by decide +kernel, by decide +kernel⟩
/-- a family of queues stands at a -/
structure FamAt (H : Hp) (a : Addr) (qs : List Addr) (fam : List (List Int)) : Prop where
  top : H a = some (.lst (qs.map V.ref))
  rows : Rws H qs (vv fam)
theorem FamAt.same {H H' : Hp} {a : Addr} {qs : List Addr} {fam : List (List Int)} (F : FamAt H a qs fam) (s : Same H H') : FamAt H' a qs fam := ⟨s _ _ F.top, F.rows.same s⟩
theorem FamAt.row {H : Hp} {a : Addr} {qs : List Addr} {fam : List (List Int)} (F : FamAt H a qs fam) {i : Nat} {q : Addr} (hq : qs[i]? = some q) : ∃ f, fam[i]? = some f ∧ H q = some (.lst (f.map V.int)) := by
  have hl : i < fam.length := by
    have h1 := (List.getElem?_eq_some_iff.mp hq).1
    have h2 := F.rows.len
    rw [vv_len] at h2
    omega
  have e : fam[i]? = some fam[i] := List.getElem?_eq_getElem hl
  exact ⟨_, e, F.rows.get i q _ hq (by rw [List.getElem?_map, e]; rfl)⟩
theorem FamAt.len {H : Hp} {a : Addr} {qs : List Addr} {fam : List (List Int)} (F : FamAt H a qs fam) : qs.length = fam.length := by
  have h := F.rows.len
  rwa [vv_len] at h
theorem flat_snoc {fam : List (List Int)} {i : Nat} {f : List Int} (h : fam[i]? = some f) : (fam.take (i + 1)).flatten = (fam.take i).flatten ++ f := by
  rw [List.take_add_one, h, List.flatten_append]
  simp
theorem flat_take_len {fam : List (List Int)} (i : Nat) : (fam.take i).flatten.length ≤ fam.flatten.length := by
  have e := congrArg List.length (congrArg List.flatten (List.take_append_drop i fam))
  rw [List.flatten_append, List.length_append] at e
  omega
section
variable {P : Program} {w : World} {K : PySem.W.Frag} {mg : Str → Option Value} {base : Heap}
def spFam : Sp := fun vs H Q _ => ∃ (a : Addr) (qs : List Addr) (fam : List (List Int)), vs = [.ref a] ∧ FamAt H a qs fam ∧ fam ≠ [] ∧ fam.flatten.Nodup ∧ fam.flatten.length ≤ 4000 ∧ fam.length ≤ 4000 ∧ ∀ H', Same H H' → Q (.bl true) H'
theorem ok_fam {f fN : Addr} {fd fdN : FuncData} {k : Nat} (F : Fun K "is_family" "is_family" sFam f fd) (T : Txt mg)
    (GN : FnOk P w K mg base CX0 k fN fdN ["value"] spNums) (gN : mg "is_numbers" = some (.ref fN)) (kN : PySem.W.keepIn K (.ref fN) = true) (bN : Binds K fdN ["value"] []) :
    FnOk P w K mg base CX0 (k + 1) f fd ["value"] spFam := by
  refine F.ok scFam (fun vs H Q E h => ?_) (fun cdv A outer s H vs Q E hr h => ?_)
  · obtain ⟨a, qs, fam, rfl, _⟩ := h
    rfl
  · obtain ⟨a, qs, fam, rfl, FA, ne, nd, hl, hl2, q⟩ := h
    refine ⟨_, pss_cons (ps_if (PW.pt (pw_or (pt_not (pt_val (pe_callB call_isi (by rfl) T.isi (by decide +kernel) (pa_cons (pv 0) (pa_cons (pe_bltn (by rfl) T.list (by decide +kernel) (v := .ty "list") rfl) pa_nil)))))
          (pw_or1 (pt_cmpR op_eq (pe_callB call_len_seq (by rfl) T.len PySem.boot_len (pa_cons (pv 0) pa_nil)) pe_int (nomark _))))) (pss_one (ps_ret pe_bl)) pss_nil)
      (pss_cons (ps_if (pt_not (pt_val (pe_callB (cr_all rfl) (by rfl) T.all (by decide +kernel) (pa_cons
          (pe_lc (te := tCB (rIsi K) (tCons (tVar 1) (tCons (tC (.ty "list")) tNil))) (own := [("queue", 1)]) (g := gName 1) (by rfl) scFam.nd (pi_list (pv 0)) (blkOk_by (own := [("queue", 1)]) (N := ["value", "queue", "number"]) (sc := defScope sFam) (by decide +kernel))
            (fun _ _ _ _ _ => pg_name (i := 1) scFam.nd rfl (Or.inl rfl)) (fun _ _ _ _ _ => pts_nil)
            (fun _ _ _ _ _ => pe_callB call_isi (by rfl) T.isi (by decide +kernel) (pa_cons (pv 1) (pa_cons (pe_bltn (by rfl) T.list (by decide +kernel) (v := .ty "list") rfl) pa_nil)))) pa_nil)))) (pss_one (ps_ret pe_bl)) pss_nil)
      (pss_one (ps_ret (pe_call GN hr (by rfl) gN kN bN .nil pass0 (pa_cons
          (pe_lc2 (wi1 := iList K (tVar 1)) (own := [("queue", 1), ("number", 2)]) (vs1 := [2]) (g := gName 1) (g1 := gName 2) (by rfl) scFam.nd (pi_list (pv 0)) (blkOk_by (own := [("queue", 1), ("number", 2)]) (N := ["value", "queue", "number"]) (sc := defScope sFam) (by decide +kernel)) (by decide)
            (fun _ _ _ _ _ => pg_name (i := 1) scFam.nd rfl (Or.inl rfl)) (fun _ _ _ _ _ => pts_nil)
            (fun _ _ _ _ _ => pi_list (pv 1))
            (fun _ _ _ _ _ => pg_name (i := 2) scFam.nd rfl (Or.inl rfl)) (fun _ _ _ _ _ => pts_nil)
            (fun _ _ _ _ _ => pv 2)) pa_nil))))), ?_⟩
    refine ⟨.ref a, rfl, .ref a, .ty "list", .type "list", .type "list", true, rfl, .ty _, .base (.lst FA.top), kit_ll, true, rfl, iteF ?_⟩
    refine ⟨.ref a, rfl, a, _, rfl, .inl (SqL.of FA.top), rfl, _, rfl, ?_⟩
    have e0 : decide (V.int ((qs.map V.ref).length : Nat) = V.int 0) = false := by
      apply decide_eq_false
      intro z
      have z2 := V.int.inj z
      rw [List.length_map, FA.len] at z2
      exact ne (List.eq_nil_of_length_eq_zero (by omega))
    rw [e0]
    refine iteF ?_
    -- all are lists
    refine ⟨.ref a, rfl, a, rfl, ⟨_, SqL.of FA.top⟩, fun D nD => ?_⟩
    have na : a ≠ D := ne_of_none FA.top nD
    refine lc_list (K := K) (a := a) (xs := qs.map V.ref) (fun i H' => H' = upd H D (.lst ((List.replicate i true).map V.bl))) rfl ?_ ?_ ?_
    · rintro i H' _ rfl
      exact SqL.of (by rw [upd_ne na]; exact FA.top)
    · rintro i x H' hx rfl
      rw [List.getElem?_map] at hx
      obtain ⟨qq, hq, rfl⟩ := Option.map_eq_some_iff.mp hx
      obtain ⟨f2, _, hf⟩ := FA.row hq
      have hi := (List.getElem?_eq_some_iff.mp hq).1
      have hlq := FA.len
      have qD : qq ≠ D := ne_of_none hf nD
      refine ⟨rfl, iteT (B := upd H D (.lst ((List.replicate i true).map V.bl)) = upd H D (.lst ((List.replicate (i + 1) true).map V.bl))) ?_⟩
      refine ⟨.ref qq, rfl, .ref qq, .ty "list", .type "list", .type "list", true, rfl, .ty _, .base (.lst (xs := f2.map V.int) (by rw [upd_ne qD]; exact hf)), kit_ll, _, upd_same, ?_, ?_⟩
      · rw [List.length_map, List.length_replicate]; unfold sizeLine; omega
      · rw [upd_upd, List.replicate_succ', List.map_append]; rfl
    rintro H' rfl
    have ea : (List.replicate (qs.map V.ref).length true).all id = true := by simp
    refine ⟨D, _, rfl, SqL.of upd_same, ?_⟩
    rw [ea]
    refine ⟨true, rfl, iteF ?_⟩
    have sm1 : Same H (upd H D (.lst ((List.replicate (qs.map V.ref).length true).map V.bl))) := sameN nD
    generalize upd H D (.lst ((List.replicate (qs.map V.ref).length true).map V.bl)) = H1 at sm1 ⊢
    have FA1 := FA.same sm1
    -- all numbers in one list
    refine ⟨.ref a, rfl, a, rfl, ⟨_, SqL.of FA1.top⟩, fun L nL => ?_⟩
    have naL : a ≠ L := ne_of_none FA1.top nL
    refine ⟨fun i m H' => m = qs.length - i ∧ i ≤ qs.length ∧ H' = upd H1 L (.lst (((fam.take i).flatten).map V.int)), ⟨qs.length, rfl, Nat.zero_le _, rfl⟩, ?_⟩
    rintro i m H' ⟨em, le, rfl⟩
    have topL : ∀ o, upd H1 L o a = some (.lst (qs.map V.ref)) := fun o => by rw [upd_ne naL]; exact FA1.top
    rcases Nat.lt_or_ge i qs.length with lt | ge
    · have hq : qs[i]? = some qs[i] := List.getElem?_eq_getElem lt
      obtain ⟨f2, ef, hf⟩ := FA1.row hq
      have qL : qs[i] ≠ L := ne_of_none hf nL
      refine Or.inr ⟨⟨_, .ref qs[i], SqL.of (topL _), by rw [List.getElem?_map, hq]; rfl⟩, fun H' => H' = upd H1 L (.lst (((fam.take (i + 1)).flatten).map V.int)), fun H' e => ⟨qs.length - (i + 1), by omega, rfl, lt, e⟩, ?_⟩
      rintro x H' ⟨rfl, fx⟩
      have ex : x = .ref qs[i] := by
        have z := fx _ (SqL.of (topL _))
        rw [List.getElem?_map, hq] at z
        exact (Option.some.inj z).symm
      subst ex
      refine ⟨rfl, iteT (B := upd H1 L (.lst (((fam.take i).flatten).map V.int)) = upd H1 L (.lst (((fam.take (i + 1)).flatten).map V.int))) ?_⟩
      have rowL : ∀ o, upd H1 L o qs[i] = some (.lst (f2.map V.int)) := fun o => by rw [upd_ne qL]; exact hf
      refine ⟨.ref qs[i], rfl, qs[i], rfl, ⟨_, SqL.of (rowL _)⟩, ?_⟩
      refine ⟨fun j k H' => k = f2.length - j ∧ j ≤ f2.length ∧ H' = upd H1 L (.lst (((fam.take i).flatten ++ f2.take j).map V.int)), ⟨f2.length, rfl, Nat.zero_le _, by rw [List.take_zero, List.append_nil]⟩, ?_⟩
      rintro j k H' ⟨ek, le2, rfl⟩
      rcases Nat.lt_or_ge j f2.length with lt2 | ge2
      · have hn : f2[j]? = some f2[j] := List.getElem?_eq_getElem lt2
        refine Or.inr ⟨⟨_, .int f2[j], SqL.of (rowL _), by rw [List.getElem?_map, hn]; rfl⟩, fun H' => H' = upd H1 L (.lst (((fam.take i).flatten ++ f2.take (j + 1)).map V.int)), fun H' e => ⟨f2.length - (j + 1), by omega, rfl, lt2, e⟩, ?_⟩
        rintro y H' ⟨rfl, fy⟩
        have ey : y = .int f2[j] := by
          have z := fy _ (SqL.of (rowL _))
          rw [List.getElem?_map, hn] at z
          exact (Option.some.inj z).symm
        subst ey
        refine ⟨rfl, iteT (B := upd H1 L (.lst (((fam.take i).flatten ++ f2.take j).map V.int)) = upd H1 L (.lst (((fam.take i).flatten ++ f2.take (j + 1)).map V.int))) ?_⟩
        refine ⟨.int f2[j], rfl, _, upd_same, ?_, ?_⟩
        · have h1 := flat_take_len (fam := fam) (i + 1)
          rw [flat_snoc ef, List.length_append] at h1
          rw [List.length_map, List.length_append, List.length_take]
          unfold sizeLine; omega
        · rw [upd_upd, List.take_add_one, hn, ← List.append_assoc, List.map_append (l₁ := (fam.take i).flatten ++ f2.take j)]; rfl
      · refine Or.inl ⟨⟨_, SqL.of (rowL _), by rw [List.length_map]; exact ge2⟩, ?_⟩
        rw [flat_snoc ef, List.take_of_length_le ge2]
    · have e : i = qs.length := by omega
      subst e
      refine Or.inl ⟨⟨_, SqL.of (topL _), by rw [List.length_map]; exact Nat.le_refl _⟩, ?_⟩
      have ef : fam.take qs.length = fam := List.take_of_length_le (by rw [FA.len]; exact Nat.le_refl _)
      rw [ef]
      refine ⟨L, fam.flatten, rfl, upd_same, nd, hl, fun H' sm => q H' ?_⟩
      exact sm1.trans ((sameN nL).trans sm)
def spReqF : Sp := fun vs H Q _ => ∃ (a : Addr) (qs : List Addr) (fam : List (List Int)), vs = [.ref a] ∧ FamAt H a qs fam ∧ fam ≠ [] ∧ fam.flatten.Nodup ∧ fam.flatten.length ≤ 4000 ∧ fam.length ≤ 4000 ∧ ∀ H', Same H H' → Q .non H'
theorem ok_reqf {f fN : Addr} {fd fdN : FuncData} {k : Nat} (F : Fun K "require_family" "require_family" sReqF f fd)
    (GN : FnOk P w K mg base CX0 k fN fdN ["value"] spFam) (gN : mg "is_family" = some (.ref fN)) (kN : PySem.W.keepIn K (.ref fN) = true) (bN : Binds K fdN ["value"] []) :
    FnOk P w K mg base CX0 (k + 1) f fd ["value"] spReqF := by
  refine F.ok scReqF (fun vs H Q E h => ?_) (fun cdv A outer s H vs Q E hr h => ?_)
  · obtain ⟨a, qs, fam, rfl, _⟩ := h
    rfl
  · obtain ⟨a, qs, fam, rfl, FA, ne, nd, hl, hl2, q⟩ := h
    refine ⟨_, pss_one (ps_if (pt_not (pt_val (pe_call GN hr (by rfl) gN kN bN .nil pass0 (pa_cons (pv 0) pa_nil)))) (pss_one ps_never) pss_nil), ?_⟩
    exact ⟨.ref a, rfl, a, qs, fam, rfl, FA, ne, nd, hl, hl2, fun H' sm => ⟨true, rfl, iteF (q H' sm)⟩⟩
end
end My
namespace My
open PySem PySem.Spec PyProof.Rows L2 LamX
/-! blocks with the index of their queue -/
def plc : Nat → List (List Int) → List (Nat × List Int)
  | _, [] => []
  | i, q :: qs => (cut q).map (fun b => (i, b)) ++ plc (i + 1) qs
theorem plc_app : ∀ (xs ys : List (List Int)) (k : Nat), plc k (xs ++ ys) = plc k xs ++ plc (k + xs.length) ys
  | [], ys, k => by simp [plc]
  | x :: xs, ys, k => by
    have e : k + (x :: xs).length = k + 1 + xs.length := by rw [List.length_cons]; omega
    show (cut x).map (fun b => (k, b)) ++ plc (k + 1) (xs ++ ys) = _
    rw [plc_app xs ys (k + 1), e, ← List.append_assoc]
    rfl
theorem plc_snoc {fam : List (List Int)} {i : Nat} {q : List Int} (h : fam[i]? = some q) : plc 0 (fam.take (i + 1)) = plc 0 (fam.take i) ++ (cut q).map (fun b => (i, b)) := by
  have hi := (List.getElem?_eq_some_iff.mp h).1
  rw [List.take_add_one, h, plc_app]
  have e : 0 + (fam.take i).length = i := by rw [List.length_take]; omega
  rw [e]
  simp [plc]
theorem plc_snd : ∀ (fam : List (List Int)) (k : Nat), (plc k fam).map (·.2) = cuts fam
  | [], _ => rfl
  | q :: qs, k => by
    show ((cut q).map (fun b => (k, b)) ++ plc (k + 1) qs).map (·.2) = cut q ++ cuts qs
    rw [List.map_append, plc_snd qs (k + 1), List.map_map]
    have e : ((fun x : Nat × List Int => x.2) ∘ fun b => (k, b)) = id := rfl
    rw [e, List.map_id]
theorem plc_mem : ∀ (fam : List (List Int)) (k : Nat) {r : Nat × List Int}, r ∈ plc k fam → ∃ q, fam[r.1 - k]? = some q ∧ k ≤ r.1 ∧ r.2 ∈ cut q
  | [], _, _, h => by simp [plc] at h
  | q :: qs, k, r, h => by
    rcases List.mem_append.mp h with z | z
    · obtain ⟨b, hb, e⟩ := List.mem_map.mp z
      subst e
      exact ⟨q, by simp, Nat.le_refl _, hb⟩
    · obtain ⟨q2, h1, h2, h3⟩ := plc_mem qs (k + 1) z
      refine ⟨q2, ?_, by omega, h3⟩
      have e : r.1 - k = (r.1 - (k + 1)) + 1 := by omega
      rw [e, List.getElem?_cons_succ]
      exact h1
theorem plc_len (fam : List (List Int)) : (plc 0 fam).length ≤ fam.flatten.length := by
  have h1 := congrArg List.length (plc_snd fam 0)
  rw [List.length_map] at h1
  have h2 := flat_len (bs := cuts fam) fun b hb => by
    obtain ⟨q, _, hq⟩ := cuts_mem hb
    exact (cut_mem hq).1
  rw [cuts_flat] at h2
  omega
def srt (fam : List (List Int)) : List (Nat × List Int) := bySm (fun r : Nat × List Int => hd r.2) (plc 0 fam)
theorem srt_snd {fam : List (List Int)} (nd : fam.flatten.Nodup) : (srt fam).map (·.2) = bySm hd (cuts fam) := by
  refine by_one ?_ (cuts_nd nd) ?_
  · have := (by_perm (fun r : Nat × List Int => hd r.2) (plc 0 fam)).map (·.2)
    rw [plc_snd] at this
    exact this
  · exact List.pairwise_map.mpr (by_sorted (fun r : Nat × List Int => hd r.2) (plc 0 fam))
theorem perm_back {α β : Type} {f : α → β} : ∀ {ys xs : List β}, ys.Perm xs → ∀ zs : List α, xs = zs.map f → ∃ zs' : List α, zs'.Perm zs ∧ ys = zs'.map f := by
  intro ys xs p
  induction p with
  | nil =>
    intro zs e
    exact ⟨[], by rw [List.map_eq_nil_iff.mp e.symm], rfl⟩
  | cons x _ ih =>
    intro zs e
    cases zs with
    | nil => cases e
    | cons z zs =>
      obtain ⟨e1, e2⟩ := List.cons.inj e
      obtain ⟨w, p, e3⟩ := ih zs e2
      exact ⟨z :: w, p.cons z, by rw [e3, e1]; rfl⟩
  | swap x y l =>
    intro zs e
    cases zs with
    | nil => cases e
    | cons z zs =>
      cases zs with
      | nil => cases (List.cons.inj e).2
      | cons z2 zs =>
        obtain ⟨e1, e2⟩ := List.cons.inj e
        obtain ⟨e3, e4⟩ := List.cons.inj e2
        exact ⟨z2 :: z :: zs, List.Perm.swap z z2 zs, by rw [e1, e3, e4]; rfl⟩
  | trans _ _ ih1 ih2 =>
    intro zs e
    obtain ⟨w, p1, e1⟩ := ih2 zs e
    obtain ⟨v, p2, e2⟩ := ih1 w e1
    exact ⟨v, p2.trans p1, e2⟩

/-- a row: its tuple, its block's list, the queue's index, the block -/
abbrev Rw := Addr × Addr × Nat × List Int
structure RowAt (H : Hp) (z : Rw) : Prop where
  tup : H z.1 = some (.tup [.int (hd z.2.2.2), .int (z.2.2.1 : Int), .ref z.2.1])
  blk : H z.2.1 = some (.lst (z.2.2.2.map V.int))
theorem RowAt.ext {H H' : Hp} {z : Rw} (r : RowAt H z) (e : ExtN H H') : RowAt H' z := ⟨xtup e r.tup, xlst e r.blk⟩
def keyAt (H : Hp) : V → Int
  | .ref t => match H t with
    | some (.tup (.int k :: _)) => k
    | _ => 0
  | _ => 0
abbrev nP : List Str := ["queues", "placed", "index", "queue", "block"]
theorem scPlaced : FnScope nP ["queues"] (defScope sPlaced) := ⟨rfl, rfl, rfl, by decide +kernel, rfl, by decide +kernel, by decide +kernel⟩

section
variable {P : Program} {w : World} {K : PySem.W.Frag} {mg : Str → Option Value} {base : Heap}
def spPlaced (T : List (Addr × Str)) : Sp := fun vs H Q _ => ∃ (a : Addr) (qs : List Addr) (fam : List (List Int)), vs = [.ref a] ∧ FamAt H a qs fam ∧ fam.flatten.Nodup ∧ fam.flatten.length ≤ 4000 ∧ fam.length ≤ 4000 ∧ Tabs T H ∧
  ∀ (H' : Hp) (p : Addr) (zs : List Rw), ExtN H H' → Tabs T H' → WF H p → H' p = some (.lst (zs.map fun z => V.ref z.1)) → (∀ z ∈ zs, RowAt H' z ∧ H z.2.1 = none) → zs.map (fun z => z.2.2) = srt fam → Q (.ref p) H'
theorem ok_placed {T : List (Addr × Str)} {f c Pt : Addr} {oc : Value} {od an : Option Addr} {osl : Array (Option Value)} {kV doc pm ct : Value} {k : Nat} {fS : Addr} {fdS : FuncData}
    (lk : K.lookup f = some ⟨oc, od, .func (PySem.W.fnOf "placed_blocks" "placed_blocks" (defArgs sPlaced) (defBody sPlaced) (defScope sPlaced) .none kV doc pm an (.ref c) ct), osl⟩)
    (hcd : PySem.W.codeIn K (.ref c) "placed_blocks" = true) (X : Txt mg) (TB : TabB base mg c Pt)
    (hmem : (Pt, ("placed_blocks.<locals>." : Str) ++ "<lambda>") ∈ T) (hu : ∀ p ∈ T, p.1 = Pt → p.2 = ("placed_blocks.<locals>." : Str) ++ "<lambda>")
    (GS : FnOk P w K mg base CX0 (k + 2) fS fdS ["numbers"] spSplit) (gS : mg "split_blocks" = some (.ref fS)) (kS : PySem.W.keepIn K (.ref fS) = true) (bS : Binds K fdS ["numbers"] []) :
    FnOk P w K mg base CX0 (k + 2 + 1) f (PySem.W.fnOf "placed_blocks" "placed_blocks" (defArgs sPlaced) (defBody sPlaced) (defScope sPlaced) .none kV doc pm an (.ref c) ct) ["queues"] (spPlaced T) := by
  refine fn_of lk hcd scPlaced (fun vs H Q E h => ?_) (fun A outer s H vs Q E hr h => ?_)
  · obtain ⟨a, qs, fam, rfl, _⟩ := h
    rfl
  · obtain ⟨a, qs, fam, rfl, FA, nd, hl, hl2, tb, q⟩ := h
    have hr2 : Room 2 (A.deeper (envOfC "placed_blocks" (defScope sPlaced) s.heap.objs.size f (.ref c))) := hr.mono (by omega)
    have body : ∃ t, PSs (cxOf CX0 P w K mg base nP "placed_blocks" (defScope sPlaced) f (.ref c) A outer s H E).nox (defBody sPlaced) t ∧ t { nx := fun _ H' => Q .non H', rt := Q } (start nP [.ref a]) H := by
      refine ⟨_, pss_cons (ps_set (i := 1) scPlaced.nd rfl (.inl rfl) (pe_lst pa_nil))
        (pss_cons (ps_for PassesOwn.never rfl (pi_enum (by rfl) X.enum (pa_cons (pv 0) pa_nil)) (pg_tup (by rfl) (pgs_cons (pg_name (i := 2) scPlaced.nd rfl (.inl rfl)) (pgs_cons (pg_name (i := 3) scPlaced.nd rfl (.inl rfl)) pgs_nil)))
          (pss_one (ps_for PassesOwn.never rfl (pi_list (pe_call GS hr (by rfl) gS kS bS .nil pass0 (pa_cons (pv 3) pa_nil))) (pg_name (i := 4) scPlaced.nd rfl (.inl rfl))
            (pss_one (ps_expr (pe_bm PySem.F.plainAttrs_list PySem.F.slot_list_append PySem.F.type_list_append mt_append (pv 1)
              (pa_cons (pe_tup (pa_cons (pe_ix ix_list (pv 4) pe_int (fun _ _ => rfl)) (pa_cons (pv 2) (pa_cons (pv 4) pa_nil)))) pa_nil)))))))
        (pss_one (ps_ret (pe_srt (T := T) (by rfl) X.sorted (pa_cons (pv 1) pa_nil) TB rfl hmem hu hr2 rfl rfl rfl rfl rfl (by decide) (fun _ _ _ _ _ _ => rfl))))), ?_⟩
      refine ⟨Nat.zero_le _, fun p np => ?_⟩
      have nap : a ≠ p := ne_of_none FA.top np
      refine ⟨.ref a, rfl, a, _, rfl, SqL.of (by rw [upd_ne nap]; exact FA.top), for_en (K := K) (a := a) (xs := qs.map V.ref)
        (fun i σ H' => ∃ y2 y3 y4, ∃ zs : List Rw, σ = [some (.ref a), some (.ref p), y2, y3, y4] ∧ Same H H' ∧ H' p = some (.lst (zs.map fun z => V.ref z.1)) ∧ (∀ z ∈ zs, RowAt H' z ∧ H z.2.1 = none ∧ z.2.1 ≠ p) ∧ zs.map (fun z => z.2.2) = plc 0 (fam.take i))
        ⟨none, none, none, [], rfl, sameN np, upd_same, (fun z hz => nomatch hz), rfl⟩ ?_ ?_ ?_⟩
      · rintro i σ H' _ ⟨_, _, _, zs, _, sm, _⟩
        exact SqL.of (sm _ _ FA.top)
      · rintro i x σ H' tp hx ⟨y2, y3, y4, zs, rfl, sm, hp, hz, hzs⟩ ntp
        rw [List.getElem?_map] at hx
        obtain ⟨qq, hq, rfl⟩ := Option.map_eq_some_iff.mp hx
        obtain ⟨f2, ef, hf⟩ := FA.row hq
        have hfl : f2.length ≤ 4000 := by
          have h1 := flat_take_len (fam := fam) (i + 1)
          rw [flat_snoc ef, List.length_append] at h1
          omega
        have npt : p ≠ tp := ne_of_none hp ntp
        refine ⟨tp, _, rfl, .inl (.inl upd_same), rfl, _, _, rfl, _, _, rfl, rfl, ?_⟩
        have sm1 : Same H (upd H' tp (.tup [.int (i : Nat), .ref qq])) := same0 sm (sm.free ntp)
        have hp1 : upd H' tp (.tup [.int (i : Nat), .ref qq]) p = some (.lst (zs.map fun z => V.ref z.1)) := by rw [upd_ne npt]; exact hp
        have hz1 : ∀ z ∈ zs, RowAt (upd H' tp (.tup [.int (i : Nat), .ref qq])) z ∧ H z.2.1 = none ∧ z.2.1 ≠ p := fun z hm => ⟨(hz z hm).1.ext (xsm (sameN ntp)), (hz z hm).2⟩
        generalize upd H' tp (.tup [.int (i : Nat), .ref qq]) = H1 at sm1 hp1 hz1 ⊢
        refine ⟨.ref qq, rfl, qq, f2, rfl, sm1 _ _ hf, hfl, fun H2 pb qb N => ?_⟩
        have hlen : ∀ j, (plc 0 (fam.take i) ++ ((cut f2).take j).map (fun b => (i, b))).length ≤ 4000 := by
          intro j
          have h1 := plc_len (fam.take (i + 1))
          rw [plc_snoc ef, List.length_append, List.length_map] at h1
          have h2 := flat_take_len (fam := fam) (i + 1)
          rw [List.length_append, List.length_map, List.length_take]
          omega
        refine ⟨pb, rfl, ⟨_, SqL.of N.top⟩, for_list (K := K) (a := pb) (xs := qb.map V.ref)
          (fun j σ H3 => ∃ y4, ∃ ws : List Rw, σ = [some (.ref a), some (.ref p), some (.int (i : Int)), some (.ref qq), y4] ∧ ExtN H H3 ∧ (∀ b o, b ≠ p → H2 b = some o → H3 b = some o) ∧ Same H H3 ∧ H3 p = some (.lst (ws.map fun z => V.ref z.1)) ∧ (∀ z ∈ ws, RowAt H3 z ∧ H z.2.1 = none ∧ z.2.1 ≠ p) ∧
            ws.map (fun z => z.2.2) = plc 0 (fam.take i) ++ ((cut f2).take j).map (fun b => (i, b)))
          ⟨y4, zs, rfl, xsm (sm1.trans N.same), (fun b o _ h => h), sm1.trans N.same, N.same _ _ hp1, (fun z hm => ⟨(hz1 z hm).1.ext (xsm N.same), (hz1 z hm).2⟩), by rw [hzs]; simp⟩ ?_ ?_ ?_⟩
        · rintro j σ H3 _ ⟨_, ws, _, _, kp, _⟩
          have npb : pb ≠ p := fun z => by
            have := N.freshp
            rw [z, hp1] at this
            cases this
          exact SqL.of (kp _ _ npb N.top)
        · rintro j x σ H3 hx ⟨y5, ws, rfl, ex3, kp, sm3, hp3, hz3, hws⟩
          rw [List.getElem?_map] at hx
          obtain ⟨ba, hb, rfl⟩ := Option.map_eq_some_iff.mp hx
          have hjl : j < (cut f2).length := by
            have h1 := (List.getElem?_eq_some_iff.mp hb).1
            have h2 := N.rows.len
            rw [vv_len] at h2
            omega
          have hblk : (cut f2)[j]? = some (cut f2)[j] := List.getElem?_eq_getElem hjl
          have hba := N.rows.get j ba _ hb (by rw [List.getElem?_map, hblk]; rfl)
          have fba : H1 ba = none := N.fresh ba (List.mem_of_getElem? hb)
          have nbp : ba ≠ p := fun z => by rw [z, hp1] at fba; cases fba
          have hba3 : H3 ba = some (.lst (((cut f2)[j]).map V.int)) := kp _ _ nbp hba
          have cm := cut_mem (List.mem_of_getElem? hblk)
          obtain ⟨m, r, hmr⟩ : ∃ m r, (cut f2)[j] = m :: r := by
            cases e : (cut f2)[j] with
            | nil => exact absurd e cm.1
            | cons m r => exact ⟨m, r, rfl⟩
          refine ⟨.ref p, rfl, .inl ⟨rfl, _, SqL.of hp3⟩, .ref ba, rfl, ba, _, 0, .int m, rfl, rfl, SqL.of hba3, atI_nat (j := 0) (by rw [hmr]; rfl), _, rfl, _, rfl, (show 3 ≤ sizeLine by decide), fun t nt => ?_⟩
          have npt3 : p ≠ t := ne_of_none hp3 nt
          have ntb : ba ≠ t := ne_of_none hba3 nt
          have ehd : hd (cut f2)[j] = m := by rw [hmr]; rfl
          refine ⟨p, _, _, rfl, rfl, by rw [upd_ne npt3]; exact hp3, ?_, ?_⟩
          · have h1 := congrArg List.length hws
            rw [List.length_map] at h1
            have h2 := hlen j
            rw [List.length_map]
            unfold sizeLine; omega
          have smt : Same H (upd H3 t (.tup [.int m, .int (i : Int), .ref ba])) := same0 sm3 (sm3.free nt)
          refine ⟨_, ws ++ [(t, ba, i, (cut f2)[j])], rfl, xsm (same0 smt np), ?_, same0 smt np, ?_, ?_, ?_⟩
          · intro b o nb hb2
            have h3 := kp b o nb hb2
            rw [upd_ne nb, upd_ne (ne_of_none h3 nt)]
            exact h3
          · rw [upd_same, List.map_append]; rfl
          · intro z hm
            rcases List.mem_append.mp hm with y | y
            · obtain ⟨r1, r2, r3⟩ := hz3 z y
              have r4 : RowAt (upd H3 t (.tup [.int m, .int (i : Int), .ref ba])) z := r1.ext (xsm (sameN nt))
              have n1 : z.1 ≠ p := fun e => by
                have := r1.tup
                rw [e, hp3] at this
                cases this
              exact ⟨⟨by rw [upd_ne n1]; exact r4.tup, by rw [upd_ne r3]; exact r4.blk⟩, r2, r3⟩
            · have e : z = (t, ba, i, (cut f2)[j]) := by simpa using y
              subst e
              refine ⟨⟨?_, ?_⟩, sm1.free fba, nbp⟩
              · show upd (upd H3 t (.tup [.int m, .int (i : Int), .ref ba])) p _ t = some (.tup [.int (hd (cut f2)[j]), .int (i : Int), .ref ba])
                rw [upd_ne npt3.symm, upd_same, ehd]
              · show upd (upd H3 t (.tup [.int m, .int (i : Int), .ref ba])) p _ ba = some (.lst (((cut f2)[j]).map V.int))
                rw [upd_ne nbp, upd_ne ntb]
                exact hba3
          · rw [List.map_append, hws, List.take_add_one, hblk, List.map_append, List.append_assoc]
            rfl
        · rintro σ H3 ⟨y5, ws, rfl, ex3, kp, sm3, hp3, hz3, hws⟩
          refine ⟨_, _, _, ws, rfl, sm3, hp3, hz3, ?_⟩
          have hqb : (qb.map V.ref).length = (cut f2).length := by
            have h2 := N.rows.len
            rw [vv_len] at h2
            rw [List.length_map]
            exact h2
          rw [hqb, List.take_length] at hws
          rw [hws, plc_snoc ef]
      · rintro σ H' ⟨y2, y3, y4, zs, rfl, sm, hp, hz, hzs⟩
        have hqf : (qs.map V.ref).length = fam.length := by rw [List.length_map]; exact FA.len
        rw [hqf, List.take_length] at hzs
        have hzl : zs.length ≤ 4000 := by
          have h1 := congrArg List.length hzs
          rw [List.length_map] at h1
          have h2 := plc_len fam
          omega
        have kf : ∀ z ∈ zs, keyAt H' (.ref z.1) = hd z.2.2.2 := by
          intro z hm
          show (match H' z.1 with
            | some (.tup (.int k :: _)) => k
            | _ => 0) = hd z.2.2.2
          rw [(hz z hm).1.tup]
        refine ⟨.ref p, rfl, p, _, keyAt H', rfl, SqL.of hp, tabs_same tb sm, by rw [List.length_map]; exact hzl, ?_, ?_⟩
        · intro v hv
          obtain ⟨z, hm, rfl⟩ := List.mem_map.mp hv
          exact ⟨z.1, _, rfl, by rw [kf z hm]; exact (hz z hm).1.tup⟩
        · intro ys p2 H2 pm pw ext t2 np2
          obtain ⟨zs', pz, rfl⟩ := perm_back pm zs rfl
          refine q (upd H2 p2 (.lst (zs'.map fun z => V.ref z.1))) p2 zs' ?_ (tabs_new t2 np2) ?_ upd_same ?_ ?_
          · exact xnw ((xsm sm).trans ext) np2
          · exact WF.ext ((xsm sm).trans ext) (WF.of np2)
          · intro z hm
            have hm2 := pz.mem_iff.mp hm
            exact ⟨((hz z hm2).1.ext ext).ext (xsm (sameN np2)), (hz z hm2).2.1⟩
          · refine by_one ?_ ?_ ?_
            · have := pz.map (fun z => z.2.2)
              rw [hzs] at this
              exact this
            · have := cuts_nd nd
              rw [← plc_snd fam 0, List.map_map] at this
              exact this
            · refine List.pairwise_map.mpr ?_
              refine (List.pairwise_map.mp pw).imp_of_mem ?_
              intro x y hx hy h
              rw [kf x (pz.mem_iff.mp hx), kf y (pz.mem_iff.mp hy)] at h
              exact h
    obtain ⟨t, b1, b2⟩ := body
    exact ⟨t, b1.nox, b2⟩
end
end My
namespace My
open PySem PySem.Spec PyProof.Rows L2 LamX
theorem flat_snoc2 {bs : List (List Int)} {i : Nat} {b : List Int} (h : bs[i]? = some b) : (bs.take (i + 1)).flatten = (bs.take i).flatten ++ b := flat_snoc h
theorem srt_flat {fam : List (List Int)} (nd : fam.flatten.Nodup) : ((srt fam).map (·.2)).flatten = mrg fam := by
  rw [srt_snd nd]
  rfl
theorem mrg_len (fam : List (List Int)) : (mrg fam).length = fam.flatten.length := (mrg_perm fam).length_eq
end My
namespace My
open PySem PySem.Spec PyProof.Rows L2 LamX
abbrev nMQ : List Str := ["queues", "result", "record", "index", "block"]
theorem scMergeQ : FnScope nMQ ["queues"] (defScope sMergeQ) := ⟨rfl, rfl, rfl, by decide +kernel, rfl, by decide +kernel, by decide +kernel⟩
section
variable {P : Program} {w : World} {K : PySem.W.Frag} {mg : Str → Option Value} {base : Heap}
def spMerge (T : List (Addr × Str)) : Sp := fun vs H Q _ => ∃ (a : Addr) (qs : List Addr) (fam : List (List Int)), vs = [.ref a] ∧ FamAt H a qs fam ∧ fam ≠ [] ∧ fam.flatten.Nodup ∧ fam.flatten.length ≤ 4000 ∧ fam.length ≤ 4000 ∧ Tabs T H ∧
  ∀ (H' : Hp) (p : Addr), ExtN H H' → Tabs T H' → WF H p → H' p = some (.lst ((mrg fam).map V.int)) → Q (.ref p) H'
theorem ok_mergeq {T : List (Addr × Str)} {f fP : Addr} {fd fdP : FuncData} {k : Nat} (F : Fun K "merge_queues" "merge_queues" sMergeQ f fd)
    (GP : FnOk P w K mg base CX0 k fP fdP ["queues"] (spPlaced T)) (gP : mg "placed_blocks" = some (.ref fP)) (kP : PySem.W.keepIn K (.ref fP) = true) (bP : Binds K fdP ["queues"] []) :
    FnOk P w K mg base CX0 (k + 1) f fd ["queues"] (spMerge T) := by
  refine F.ok scMergeQ (fun vs H Q E h => ?_) (fun cdv A outer s H vs Q E hr h => ?_)
  · obtain ⟨a, qs, fam, rfl, _⟩ := h
    rfl
  · obtain ⟨a, qs, fam, rfl, FA, ne, nd, hl, hl2, tb, q⟩ := h
    refine ⟨_, pss_cons (ps_set (i := 1) scMergeQ.nd rfl (.inl rfl) (pe_lst pa_nil))
      (pss_cons (ps_for PassesOwn.never rfl (pi_list (pe_call GP hr (by rfl) gP kP bP .nil pass0 (pa_cons (pv 0) pa_nil)))
          (pg_tup (by rfl) (pgs_cons (pg_name (i := 2) scMergeQ.nd rfl (.inl rfl)) (pgs_cons (pg_name (i := 3) scMergeQ.nd rfl (.inl rfl)) (pgs_cons (pg_name (i := 4) scMergeQ.nd rfl (.inl rfl)) pgs_nil))))
        (pss_one (ps_expr (pe_bm PySem.F.plainAttrs_list PySem.F.slot_list_extend PySem.F.type_list_extend mt_extend (pv 1) (pa_cons (pv 4) pa_nil)))))
      (pss_one (ps_ret (pv 1)))), ?_⟩
    refine ⟨Nat.zero_le _, fun r nr => ?_⟩
    have smr : Same H (upd H r (.lst [])) := sameN nr
    have hr0 : upd H r (.lst []) r = some (.lst []) := upd_same
    refine ⟨.ref a, rfl, a, qs, fam, rfl, FA.same smr, nd, hl, hl2, tabs_same tb smr, fun H1 p zs ext t1 wf hp hz hzs => ?_⟩
    have hr1 : H1 r = some (.lst []) := xlst ext hr0
    have hzr : ∀ z ∈ zs, z.2.1 ≠ r := fun z hm e => by
      have := (hz z hm).2
      rw [e, hr0] at this
      cases this
    have hblk : zs.map (fun z => z.2.2.2) = (srt fam).map (·.2) := by
      rw [← hzs, List.map_map]
      rfl
    have hflat : (zs.map (fun z => z.2.2.2)).flatten = mrg fam := by rw [hblk]; exact srt_flat nd
    have ext0 : ExtN H H1 := (xsm smr).trans ext
    refine ⟨p, rfl, ⟨_, SqL.of hp⟩, for_list (K := K) (a := p) (xs := zs.map fun z => V.ref z.1)
      (fun i σ H' => ∃ y2 y3 y4, σ = [some (.ref a), some (.ref r), y2, y3, y4] ∧ H' = upd H1 r (.lst ((((zs.map (fun z => z.2.2.2)).take i).flatten).map V.int)))
      ⟨none, none, none, rfl, ?_⟩ ?_ ?_ ?_⟩
    · funext b
      by_cases e : b = r
      · subst e; rw [hr1, upd_same]; rfl
      · rw [upd_ne e]
    · rintro i σ H' _ ⟨_, _, _, _, rfl⟩
      have npr : p ≠ r := fun z => by
        rw [z, hr1] at hp
        cases zs with
        | nil =>
          have h0 := wf
          obtain ⟨ps, e⟩ := wf (.lst []) (by rw [z]; exact hr0)
          cases e
        | cons x l => cases hp
      exact SqL.of (by rw [upd_ne npr]; exact hp)
    · rintro i x σ H' hx ⟨y2, y3, y4, rfl, rfl⟩
      rw [List.getElem?_map] at hx
      obtain ⟨z, hz2, rfl⟩ := Option.map_eq_some_iff.mp hx
      have hm : z ∈ zs := List.mem_of_getElem? hz2
      obtain ⟨R, _⟩ := hz z hm
      have n1 : z.1 ≠ r := fun e => by
        have := R.tup
        rw [e, hr1] at this
        cases this
      have n2 := hzr z hm
      have hb : (zs.map (fun z => z.2.2.2))[i]? = some z.2.2.2 := by rw [List.getElem?_map, hz2]; rfl
      refine ⟨z.1, _, rfl, SqT.of (by rw [upd_ne n1]; exact R.tup), rfl, _, _, rfl, _, _, rfl, _, _, rfl, rfl, ?_⟩
      have bl : upd H1 r (.lst ((((zs.map (fun z => z.2.2.2)).take i).flatten).map V.int)) z.2.1 = some (.lst (z.2.2.2.map V.int)) := by rw [upd_ne n2]; exact R.blk
      refine ⟨.ref r, rfl, .inl ⟨rfl, _, SqL.of upd_same⟩, .ref z.2.1, rfl, r, z.2.1, _, _, rfl, rfl, upd_same, bl, ?_, ?_⟩
      · have h1 := flat_take_len (fam := zs.map (fun z => z.2.2.2)) (i + 1)
        rw [flat_snoc2 hb, hflat, mrg_len, List.length_append] at h1
        rw [List.length_map, List.length_map]
        unfold sizeLine; omega
      · refine ⟨_, _, _, rfl, ?_⟩
        rw [upd_upd, flat_snoc2 hb, List.map_append]
    · rintro σ H' ⟨y2, y3, y4, rfl, rfl⟩
      have e1 : (zs.map fun z => V.ref z.1).length = (zs.map (fun z => z.2.2.2)).length := by rw [List.length_map, List.length_map]
      rw [e1, List.take_length, hflat]
      exact ⟨.ref r, rfl, q _ r (xwr ext0 (WF.of nr)) (tabs_write t1 hr1) (WF.of nr) upd_same⟩
/-- the indices of the queues of the blocks -/
def asg (fam : List (List Int)) : List Int := (srt fam).map fun r => (r.1 : Int)
end
end My
namespace My
open PySem PySem.Spec PyProof.Rows L2
theorem scReq : FnScope ["value"] ["value"] (defScope sReq) := ⟨rfl, rfl, rfl, by decide +kernel, rfl, by decide +kernel, by decide +kernel⟩
section
variable {P : Program} {w : World} {K : PySem.W.Frag} {mg : Str → Option Value} {base : Heap}
def spReq : Sp := fun vs H Q _ => ∃ (a : Addr) (ns : List Int), vs = [.ref a] ∧ H a = some (.lst (ns.map V.int)) ∧ ns.Nodup ∧ ns.length ≤ 4000 ∧ ∀ H', Same H H' → Q .non H'
theorem ok_req {f fN : Addr} {fd fdN : FuncData} {k : Nat} (F : Fun K "require_numbers" "require_numbers" sReq f fd)
    (GN : FnOk P w K mg base CX0 k fN fdN ["value"] spNums) (gN : mg "is_numbers" = some (.ref fN)) (kN : PySem.W.keepIn K (.ref fN) = true) (bN : Binds K fdN ["value"] []) :
    FnOk P w K mg base CX0 (k + 1) f fd ["value"] spReq := by
  refine F.ok scReq (fun vs H Q E h => ?_) (fun cdv A outer s H vs Q E hr h => ?_)
  · obtain ⟨a, ns, rfl, _⟩ := h
    rfl
  · obtain ⟨a, ns, rfl, hS, nd, hl, q⟩ := h
    refine ⟨_, pss_one (ps_if (pt_not (pt_val (pe_call GN hr (by rfl) gN kN bN .nil pass0 (pa_cons (pv 0) pa_nil)))) (pss_one ps_never) pss_nil), ?_⟩
    exact ⟨.ref a, rfl, a, ns, rfl, hS, nd, hl, fun H' sm => ⟨true, rfl, iteF (q H' sm)⟩⟩
end
end My
namespace My
open PySem PySem.Spec PyProof.Rows L2 LamX
theorem FamAt.ext {H H' : Hp} {a : Addr} {qs : List Addr} {fam : List (List Int)} (F : FamAt H a qs fam) (e : ExtN H H') : FamAt H' a qs fam :=
  ⟨xlst e F.top, F.rows.len, F.rows.nd, fun j q b e1 e2 => xlst e (F.rows.get j q b e1 e2)⟩
/-- a family within the limits -/
def Fit (fam : List (List Int)) : Prop := fam ≠ [] ∧ fam.flatten.Nodup ∧ fam.flatten.length ≤ 4000 ∧ fam.length ≤ 4000
end My
namespace My
open PySem PySem.Spec PyProof.Rows L2 LamX
local macro_rules | `(tactic| infer_instance) => `(tactic| first
  | with_reducible refine s_var (by with_unfolding_all exact rfl) ?_
  | with_reducible apply s_C
  | with_reducible apply s_op
  | with_reducible apply s_i0
  | with_reducible apply s_seq
  | with_reducible apply s_asg
  | with_reducible apply s_gn
  | with_reducible apply s_nil
  | with_reducible apply s_cons
  | with_reducible apply s_cb
  | with_reducible apply s_call
  | with_reducible apply s_un
  | with_reducible apply s_u
  | with_reducible apply s_test
  | with_reducible apply s_blV
  | with_reducible apply s_eqI
  | with_reducible apply s_neI
  | with_reducible apply s_ifs
  | with_reducible apply s_drop
  | with_reducible apply s_ret
  | with_reducible apply s_lst
  | with_reducible apply s_tup
  | with_reducible apply s_and
  | with_reducible apply s_or
  | with_reducible apply s_not
  | with_reducible apply s_tB
  | with_reducible apply s_bm
  | with_reducible apply s_bm0
  | with_reducible apply s_for
  | with_reducible apply s_iList
  | with_reducible apply s_iTup
  | with_reducible apply s_mndS
  | with_reducible apply s_srtS
  | with_reducible apply s_lc2S
  | with_reducible apply s_remS
  | with_reducible apply s_iRng
  | with_reducible apply s_iEnum
  | with_reducible apply s_iRng3
  | with_reducible apply s_iZip
  | with_reducible apply s_iZip3
  | with_reducible apply s_iRev
  | with_reducible apply s_get2S
  | with_reducible apply s_iEZ
  | with_reducible apply s_sl
  | with_reducible apply s_noPart
  | with_reducible apply s_part
  | with_reducible apply s_partI
  | with_reducible apply s_neS
  | with_reducible apply s_eqS
  | with_reducible apply s_lc
  | with_reducible apply s_dc
  | with_reducible apply s_dg
  | with_reducible apply s_di
  | with_reducible apply s_dni
  | with_reducible apply s_yes
  | with_reducible apply s_chain
  | with_reducible refine s_aug (by with_unfolding_all exact rfl) ?_
  | with_reducible apply s_ip
  | with_reducible apply s_revL
  | with_reducible apply s_gsub
  | with_reducible apply s_gslc
  | with_reducible apply s_parS
  | with_reducible apply s_par
  | with_reducible apply s_gc
  | with_reducible apply s_gnil
  | with_reducible apply s_brk
  | with_reducible apply s_cnt
  | with_reducible apply s_next
  | with_reducible apply s_andV
  | with_reducible apply s_orV
  | with_reducible apply s_notV
  | with_reducible apply s_isB
  | with_reducible apply s_notB
  | with_reducible apply s_max2
  | with_reducible apply s_min2
  | with_reducible apply s_abs
  | with_reducible apply s_intB
  | (with_reducible refine s_len (by assumption) ?_)
  | (with_reducible refine s_lenF (by assumption) ?_)
  | (with_reducible refine s_ty (by assumption) ?_)
  | (with_reducible refine s_tyF (by assumption) ?_)
  | (with_reducible refine s_i (by first | decide | exact cpow_ok (by decide) (by decide) (by decide) | exact cdivw (by decide) (by decide) | exact cmul_l (by decide) (by decide) | exact cmul_r (by decide) (by decide) | omega | exact cmul_l (by omega) (by omega) | exact cmul_r (by omega) (by omega)) ?_))

abbrev nLawCan : List Str := ["script", "k", "cell"]
theorem scLawCan : FnScope nLawCan ["script", "k"] (defScope sLawCan) := ⟨rfl, rfl, rfl, by decide +kernel, rfl, by decide +kernel, by decide +kernel⟩

abbrev nLawScoop : List Str := ["can", "many", "found", "grain"]
theorem scLawScoop : FnScope nLawScoop ["can", "many"] (defScope sLawScoop) := ⟨rfl, rfl, rfl, by decide +kernel, rfl, by decide +kernel, by decide +kernel⟩

/-- a can's three numbers, the third at most n -/
structure Drm (a b c : Int) (n : Nat) : Prop where
  a0 : 0 ≤ a
  b0 : 0 ≤ b
  b1 : b < 2 ^ 200
  c0 : 0 ≤ c
  c1 : c ≤ n
abbrev drl (a b c : Int) : HO := .lst [.int a, .int b, .int c]
def CanO (n : Nat) (o : HO) : Prop := ∃ a b c, o = drl a b c ∧ Drm a b c n
theorem Drm.up {a b c : Int} {n m : Nat} (d : Drm a b c n) (h : n ≤ m) : Drm a b c m := ⟨d.a0, d.b0, d.b1, d.c0, by have := d.c1; omega⟩
theorem CanO.up {n m : Nat} {o : HO} (c : CanO n o) (h : n ≤ m) : CanO m o := by
  obtain ⟨a, b, c, e, d⟩ := c
  exact ⟨a, b, c, e, d.up h⟩
theorem Own.up {H0 H : Hp} {T : List (Addr × Str)} {L : List Cell} {c : Cell} {D : Addr} {n m : Nat} (B : Own H0 H T (c :: .pr D (CanO n) :: L)) (h : n ≤ m) : Own H0 H T (c :: .pr D (CanO m) :: L) :=
  ⟨B.ex, B.tb, B.wf, B.nd, fun d hd => by
    rcases List.mem_cons.mp hd with e | e
    · rw [e]; exact B.head
    · rcases List.mem_cons.mp e with e2 | e2
      · obtain ⟨o, h1, h2, h3⟩ := B.tail.head
        rw [e2]; exact ⟨o, h1, h2, h3.up h⟩
      · exact B.ok d (List.mem_cons_of_mem _ (List.mem_cons_of_mem _ e2))⟩
theorem Own.upH {H0 H : Hp} {T : List (Addr × Str)} {L : List Cell} {D : Addr} {n m : Nat} (B : Own H0 H T (.pr D (CanO n) :: L)) (h : n ≤ m) : Own H0 H T (.pr D (CanO m) :: L) :=
  Own.conv (A := [.pr D (CanO n)]) (C := [.pr D (CanO m)]) B (List.Perm.refl _) fun k _ c hc => by
    obtain ⟨o, h1, h2, h3⟩ := k (.pr D (CanO n)) (by simp)
    rw [List.mem_singleton.mp hc]; exact ⟨o, h1, h2, h3.up h⟩
theorem Own.upD {H0 H : Hp} {T : List (Addr × Str)} {L L' : List Cell} {n m : Nat} (B : Own H0 H T L) (D : Addr) [P : Pull L D (.pr D (CanO n)) L'] (h : n ≤ m) : Own H0 H T (.pr D (CanO m) :: L') := (B.pull D).upH h
theorem abs_lt {x : Int} {b : Nat} (h0 : 0 ≤ x) (h : x < (2 ^ b : Nat)) : x.natAbs < 2 ^ b := by omega
theorem p37 : (0 : Int) < 10 ^ (37 : Int).toNat + 43 := by decide
theorem p43 : (0 : Int) < 10 ^ (43 : Int).toNat + 57 := by decide
theorem p42 : (0 : Int) < 10 ^ (42 : Int).toNat + 63 := by decide
section
variable {P : Program} {w : World} {K : PySem.W.Frag} {mg : Str → Option Value} {base : Heap}
def spLawCan (K : PySem.W.Frag) : Sp := fun vs H Q _ => ∃ (H0 : Hp) (T : List (Addr × Str)) (L : List Cell) (a : Addr) (ns : List Int) (j : Nat), vs = [.ref a, .int (j : Int)] ∧ Own H0 H T L ∧ SqL K H a (ns.map V.int) ∧ j ≤ 100 ∧
  ∀ D H', Own H0 H' T (.pr D (CanO 0) :: L) → Q (.ref D) H'
set_option maxHeartbeats 0 in
theorem ok_LawCan {f : Addr} {fd : FuncData} {k : Nat} (F : Fun K "_law_can" "_law_can" sLawCan f fd) (Tx : Txt mg)  : FnOk P w K mg base CX0 (k + 1) f fd ["script", "k"] (spLawCan K) := by
  refine F.ok scLawCan (fun vs H Q E h => ?_) (fun cdv A outer s H vs Q E hr h => ?_)
  · obtain ⟨_, _, _, a, ns, j, rfl, _⟩ := h
    rfl
  · obtain ⟨H0, T, L, a, ns, j, rfl, B, hS, hj, q⟩ := h
    refine ⟨_, (pss_cons (ps_set (i := 2) scLawCan.nd rfl (.inl rfl) (pe_ifExp (pt_cmpR op_lt (pv 1) (pe_callB (cl_len) (by rfl) Tx.len (by decide +kernel) (pa_cons (pv 0) pa_nil)) (nomark _)) (pe_ix ix_list (pv 0) (pv 1) (fun _ _ => rfl)) pe_int))
 (pss_one (ps_ret (pe_lst (pa_cons (pe_callB (cl_max2 (by rfl)) (by rfl) Tx.max (by decide +kernel) (pa_cons pe_int (pa_cons (pe_op op_sub (pe_callB (cl_abs) (by rfl) Tx.abs (by decide +kernel) (pa_cons (pv 2) pa_nil)) (pe_op op_pow pe_int pe_int)) pa_nil))) (pa_cons (pe_op op_add (pe_op op_add (pe_op op_mulW (pe_op op_mod (pv 2) (pe_op op_add (pe_op op_pow pe_int pe_int) pe_int)) pe_int) (pe_op op_mul pe_int (pv 1))) pe_int) (pa_cons pe_int pa_nil))))))), ?_⟩
    have fin : ∀ cell : Int, ∀ D H', Own H0 H' T (.ob D (drl (if (if cell < 0 then -cell else cell) - 10 ^ (18 : Int).toNat > 0 then (if cell < 0 then -cell else cell) - 10 ^ (18 : Int).toNat else 0)
        ((cell % (10 ^ (37 : Int).toNat + 43)) * 19 + 15013 * (j : Int) + 4) 0) :: L) → Q (.ref D) H' := by
      intro cell D H' B
      have e37 : (10 : Int) ^ (37 : Int).toNat = 10 ^ 37 := rfl
      have l1 := Int.emod_nonneg cell (b := 10 ^ (37 : Int).toNat + 43) (by decide)
      have l2 := Int.emod_lt_of_pos cell (b := 10 ^ (37 : Int).toNat + 43) (by decide)
      refine q D H' (B.toP ⟨_, _, _, rfl, ?_, ?_, ?_, by decide, by decide⟩)
      · split <;> omega
      · rw [e37] at l1 ⊢; omega
      · rw [e37] at l2 ⊢; omega
    repeat infer_instance
    refine s_ifx ?_
    repeat infer_instance
    refine s_lenS hS ?_
    repeat infer_instance
    refine iteD (fun h1 => ?_) (fun h1 => ?_)
    · have hlt : j < ns.length := by rw [List.length_map] at h1; omega
      repeat infer_instance
      refine s_ixS hS (atI_nat (j := j) (by rw [List.getElem?_map, List.getElem?_eq_getElem hlt]; rfl)) ?_
      repeat infer_instance
      refine s_i (wide_mul (a := 150) (b := 14) (abs_lt (Int.emod_nonneg _ (by decide)) (Int.lt_trans (Int.emod_lt_of_pos _ p37) (by decide))) (by decide) (by decide) (by decide) (by decide)) ?_
      repeat infer_instance
      exact s_newL B (show 3 ≤ sizeLine by decide) (fin _)
    · repeat infer_instance
      refine s_i (wide_mul (a := 150) (b := 14) (abs_lt (Int.emod_nonneg _ (by decide)) (Int.lt_trans (Int.emod_lt_of_pos _ p37) (by decide))) (by decide) (by decide) (by decide) (by decide)) ?_
      repeat infer_instance
      exact s_newL B (show 3 ≤ sizeLine by decide) (fin _)
def spLawScoop : Sp := fun vs H Q _ => ∃ (H0 : Hp) (T : List (Addr × Str)) (L : List Cell) (D : Addr) (z : Int) (n : Nat), vs = [.ref D, .int z] ∧ Own H0 H T (.pr D (CanO n) :: L) ∧ n ≤ 1000000 ∧ 1 ≤ z ∧ z < 2 ^ 100 ∧
  ∀ (v : Nat) H', Own H0 H' T (.pr D (CanO (n + 1)) :: L) → (v : Int) < z → Q (.int (v : Int)) H'
theorem u_scoop {H0 H : Hp} {T : List (Addr × Str)} {L L' : List Cell} {D : Addr} {z : Int} {n : Nat} {Q : VK} {E : XK} (B : Own H0 H T L) [P : Pull L D (.pr D (CanO n)) L'] (hn : n ≤ 1000000) (h1 : 1 ≤ z) (h2 : z < 2 ^ 100)
    (k : ∀ (v : Nat) H', Own H0 H' T (.pr D (CanO (n + 1)) :: L') → (v : Int) < z → Q (.int (v : Int)) H') : spLawScoop [.ref D, .int z] H Q E := ⟨_, _, _, _, _, _, rfl, B.pull D, hn, h1, h2, k⟩
set_option maxHeartbeats 0 in
theorem ok_LawScoop {f : Addr} {fd : FuncData} {k : Nat} (F : Fun K "_law_scoop" "_law_scoop" sLawScoop f fd) (Tx : Txt mg)  : FnOk P w K mg base CX0 (k + 1) f fd ["can", "many"] spLawScoop := by
  refine F.ok scLawScoop (fun vs H Q E h => ?_) (fun cdv A outer s H vs Q E hr h => ?_)
  · obtain ⟨_, _, _, D, z, n, rfl, _⟩ := h
    rfl
  · obtain ⟨H0, T, L, D, z, n, rfl, B, hn, hz, hz2, q⟩ := h
    refine ⟨_, (pss_cons (ps_if (pt_cmpR op_gt (pe_ix ix_list (pv 0) pe_int (fun _ _ => rfl)) pe_int (by rfl))
  (pss_cons (ps_set (i := 2) scLawScoop.nd rfl (.inl rfl) (pe_op op_mod (pe_ix ix_list (pv 0) pe_int (fun _ _ => rfl)) (pv 1)))
 (pss_cons (ps_asg (pe_op op_fdivW (pe_ix ix_list (pv 0) pe_int (fun _ _ => rfl)) (pv 1)) (pg_sub (pv 0) pe_int set_list))
 (pss_one (ps_ret (pv 2))))) pss_nil)
 (pss_cons (ps_asg (pe_op op_add (pe_ix ix_list (pv 0) pe_int (fun _ _ => rfl)) pe_int) (pg_sub (pv 0) pe_int set_list))
 (pss_cons (ps_set (i := 3) scLawScoop.nd rfl (.inl rfl) (pe_op op_mod (pe_op op_pw (pe_op op_add (pe_ix ix_list (pv 0) pe_int (fun _ _ => rfl)) (pe_op op_mul pe_int (pe_ix ix_list (pv 0) pe_int (fun _ _ => rfl)))) pe_int) (pe_op op_add (pe_op op_pow pe_int pe_int) pe_int)))
 (pss_cons (ps_set (i := 3) scLawScoop.nd rfl (.inl rfl) (pe_op op_mod (pe_op op_pw (pe_op op_add (pv 3) (pe_op op_mul pe_int (pe_ix ix_list (pv 0) pe_int (fun _ _ => rfl)))) pe_int) (pe_op op_add (pe_op op_pow pe_int pe_int) pe_int)))
 (pss_one (ps_ret (pe_op op_mod (pe_op op_fdivW (pv 3) pe_int) (pv 1)))))))), ?_⟩
    obtain ⟨o, ⟨a, b, c, rfl, hd⟩, B⟩ := B.ofP
    have fin : ∀ (x : Int) (y : V → Hp → Prop), True := fun _ _ => trivial
    repeat infer_instance
    refine s_ix B (i := 0) rfl ?_
    repeat infer_instance
    refine iteD (fun e => ?_) (fun e => ?_)
    · repeat infer_instance
      refine s_ix B (i := 0) rfl ?_
      repeat infer_instance
      refine s_ix B (i := 0) rfl ?_
      repeat infer_instance
      refine s_i (wide_div (b := 100) (by omega) (abs_lt (by omega) hz2) (by decide) (by decide)) ?_
      repeat infer_instance
      refine s_setL (n := 0) B (by exact (show 0 < 3 by decide)) fun H1 B1 => ?_
      repeat infer_instance
      obtain ⟨v, hv⟩ := natv (Int.emod_nonneg a (b := z) (by omega))
      rw [hv]
      refine q v H1 (B1.toP ⟨_, _, _, rfl, Int.ediv_nonneg hd.a0 (by omega), hd.b0, hd.b1, hd.c0, ?_⟩) ?_
      · have := hd.c1; omega
      · rw [← hv]; exact Int.emod_lt_of_pos _ (by omega)
    · have hb := hd.b0
      have hb1 := hd.b1
      have hc := hd.c0
      have hc1 := hd.c1
      repeat infer_instance
      refine s_ix B (i := 2) rfl ?_
      repeat infer_instance
      refine s_setL (n := 2) B (by exact (show 2 < 3 by decide)) fun H1 B1 => ?_
      repeat infer_instance
      refine s_ix B1 (i := 1) rfl ?_
      repeat infer_instance
      refine s_ix B1 (i := 2) rfl ?_
      repeat infer_instance
      refine s_i (pw_ok (b := 250) (by decide) (by decide) (abs_lt (by omega) (by omega)) (by decide) (by decide)) ?_
      repeat infer_instance
      have m0 := Int.emod_nonneg ((b + 4093082899 * (c + 1)) ^ (3 : Int).toNat) (b := 10 ^ (43 : Int).toNat + 57) (by decide)
      have m2 := Int.emod_lt_of_pos ((b + 4093082899 * (c + 1)) ^ (3 : Int).toNat) p43
      generalize ((b + 4093082899 * (c + 1)) ^ (3 : Int).toNat) % (10 ^ (43 : Int).toNat + 57) = m1 at m0 m2 ⊢
      have m3 : m1 < 2 ^ 150 := Int.lt_trans m2 (by decide)
      refine s_ix B1 (i := 2) rfl ?_
      repeat infer_instance
      refine s_i (pw_ok (b := 250) (by decide) (by decide) (abs_lt (by omega) (by omega)) (by decide) (by decide)) ?_
      repeat infer_instance
      have k0 := Int.emod_nonneg ((m1 + 2971215073 * (c + 1)) ^ (3 : Int).toNat) (b := 10 ^ (42 : Int).toNat + 63) (by decide)
      generalize ((m1 + 2971215073 * (c + 1)) ^ (3 : Int).toNat) % (10 ^ (42 : Int).toNat + 63) = m4 at k0 ⊢
      obtain ⟨v, hv⟩ := natv (Int.emod_nonneg (m4 / 1000151) (b := z) (by omega))
      rw [hv]
      refine q v H1 (B1.toP ⟨_, _, _, rfl, hd.a0, hd.b0, hd.b1, by omega, by omega⟩) ?_
      rw [← hv]; exact Int.emod_lt_of_pos _ (by omega)
end
end My
namespace My
open PySem PySem.Spec PyProof.Rows L2 LamX
/-- the range of all figures -/
def Fg (ns : List Int) : Prop := ∀ x ∈ ns, -(10 ^ 30) < x ∧ x < 10 ^ 30 ∧ (x < 10 ^ 28 ∨ 2 * 10 ^ 29 < x)
theorem Fg.perm {xs ys : List Int} (h : Fg xs) (p : ys.Perm xs) : Fg ys := fun x hx => h x (p.mem_iff.mp hx)
end My
namespace My
open PySem PySem.Spec PyProof.Rows L2 LamX
/-- a family that the law has made -/
structure Fam (fam : List (List Int)) (a b : Nat) : Prop where
  ne : fam ≠ []
  nd : fam.flatten.Nodup
  rg : Fg fam.flatten
  len : fam.length ≤ a
  tot : fam.flatten.length ≤ b
theorem flat_set {fam : List (List Int)} {n : Nat} {f : List Int} {x : Int} (h : fam[n]? = some f) : (fam.set n (f ++ [x])).flatten.Perm (x :: fam.flatten) := by
  have hl := (List.getElem?_eq_some_iff.mp h).1
  have e := (List.getElem?_eq_some_iff.mp h).2
  have e1 : fam = fam.take n ++ f :: fam.drop (n + 1) := by
    rw [← e]; simp
  have e2 : fam.set n (f ++ [x]) = fam.take n ++ (f ++ [x]) :: fam.drop (n + 1) := List.set_eq_take_append_cons_drop .. |>.trans (if_pos hl)
  rw [e2]
  conv => rhs; rw [e1]
  rw [List.flatten_append, List.flatten_append, List.flatten_cons, List.flatten_cons, List.append_assoc]
  refine List.Perm.trans (List.Perm.append_left _ (List.perm_middle (a := x) (l₁ := f) (l₂ := (fam.drop (n + 1)).flatten))) ?_
  exact List.perm_middle
theorem Fam.up {fam : List (List Int)} {a b c d : Nat} (F : Fam fam a b) (h : a ≤ c) (h2 : b ≤ d) : Fam fam c d := ⟨F.ne, F.nd, F.rg, Nat.le_trans F.len h, Nat.le_trans F.tot h2⟩
theorem Fam.perm {fam fam2 : List (List Int)} {a b : Nat} (F : Fam fam a b) (p : fam2.flatten.Perm fam.flatten) (h : fam2.length = fam.length) : Fam fam2 a b :=
  ⟨(fun z => F.ne (List.eq_nil_of_length_eq_zero (by rw [← h, z]; rfl))), p.nodup_iff.mpr F.nd, F.rg.perm p, by rw [h]; exact F.len, by rw [p.length_eq]; exact F.tot⟩
theorem set_init_perm {fam : List (List Int)} {j : Nat} {z : Int} {g : List Int} (e : fam[j]? = some (g ++ [z])) : (z :: (fam.set j g).flatten).Perm fam.flatten := by
  conv => rhs; rw [split_at e]
  rw [set_at e, List.flatten_append, List.flatten_append, List.flatten_cons, List.flatten_cons, List.append_assoc]
  refine (List.perm_middle (a := z) (l₁ := (fam.take j).flatten) (l₂ := g ++ (fam.drop (j + 1)).flatten)).symm.trans (List.Perm.append_left _ ?_)
  exact (List.perm_middle (a := z) (l₁ := g) (l₂ := (fam.drop (j + 1)).flatten)).symm
end My
namespace My
open PySem PySem.Spec PyProof.Rows L2 LamX
local macro_rules | `(tactic| infer_instance) => `(tactic| first
  | with_reducible refine s_var (by with_unfolding_all exact rfl) ?_
  | with_reducible apply s_C
  | with_reducible apply s_op
  | with_reducible apply s_i0
  | with_reducible apply s_seq
  | with_reducible apply s_asg
  | with_reducible apply s_gn
  | with_reducible apply s_nil
  | with_reducible apply s_cons
  | with_reducible apply s_cb
  | with_reducible apply s_call
  | with_reducible apply s_un
  | with_reducible apply s_u
  | with_reducible apply s_test
  | with_reducible apply s_blV
  | with_reducible apply s_eqI
  | with_reducible apply s_neI
  | with_reducible apply s_ifs
  | with_reducible apply s_drop
  | with_reducible apply s_ret
  | with_reducible apply s_lst
  | with_reducible apply s_tup
  | with_reducible apply s_and
  | with_reducible apply s_or
  | with_reducible apply s_not
  | with_reducible apply s_tB
  | with_reducible apply s_bm
  | with_reducible apply s_bm0
  | with_reducible apply s_for
  | with_reducible apply s_iList
  | with_reducible apply s_iTup
  | with_reducible apply s_mndS
  | with_reducible apply s_srtS
  | with_reducible apply s_lc2S
  | with_reducible apply s_remS
  | with_reducible apply s_iRng
  | with_reducible apply s_iEnum
  | with_reducible apply s_iRng3
  | with_reducible apply s_iZip
  | with_reducible apply s_iZip3
  | with_reducible apply s_iRev
  | with_reducible apply s_get2S
  | with_reducible apply s_iEZ
  | with_reducible apply s_sl
  | with_reducible apply s_noPart
  | with_reducible apply s_part
  | with_reducible apply s_partI
  | with_reducible apply s_neS
  | with_reducible apply s_eqS
  | with_reducible apply s_lc
  | with_reducible apply s_dc
  | with_reducible apply s_dg
  | with_reducible apply s_di
  | with_reducible apply s_dni
  | with_reducible apply s_yes
  | with_reducible apply s_chain
  | with_reducible refine s_aug (by with_unfolding_all exact rfl) ?_
  | with_reducible apply s_ip
  | with_reducible apply s_revL
  | with_reducible apply s_gsub
  | with_reducible apply s_gslc
  | with_reducible apply s_parS
  | with_reducible apply s_par
  | with_reducible apply s_gc
  | with_reducible apply s_gnil
  | with_reducible apply s_brk
  | with_reducible apply s_cnt
  | with_reducible apply s_next
  | with_reducible apply s_andV
  | with_reducible apply s_orV
  | with_reducible apply s_notV
  | with_reducible apply s_isB
  | with_reducible apply s_notB
  | with_reducible apply s_max2
  | with_reducible apply s_min2
  | with_reducible apply s_abs
  | with_reducible apply s_intB
  | (with_reducible refine s_len (by assumption) ?_)
  | (with_reducible refine s_lenF (by assumption) ?_)
  | (with_reducible refine s_ty (by assumption) ?_)
  | (with_reducible refine s_tyF (by assumption) ?_)
  | (with_reducible refine s_i (by first | decide | exact cpow_ok (by decide) (by decide) (by decide) | exact cdivw (by decide) (by decide) | exact cmul_l (by decide) (by decide) | exact cmul_r (by decide) (by decide) | omega | exact cmul_l (by omega) (by omega) | exact cmul_r (by omega) (by omega)) ?_))

abbrev nIsIndex : List Str := ["value", "many"]
theorem scIsIndex : FnScope nIsIndex ["value", "many"] (defScope sIsIndex) := ⟨rfl, rfl, rfl, by decide +kernel, rfl, by decide +kernel, by decide +kernel⟩

abbrev nRequireIndex : List Str := ["value", "many"]
theorem scRequireIndex : FnScope nRequireIndex ["value", "many"] (defScope sRequireIndex) := ⟨rfl, rfl, rfl, by decide +kernel, rfl, by decide +kernel, by decide +kernel⟩

section
variable {P : Program} {w : World} {K : PySem.W.Frag} {mg : Str → Option Value} {base : Heap}
def spIsIndex : Sp := fun vs H Q _ => ∃ i m : Int, vs = [.int i, .int m] ∧ Q (.bl (decide (0 ≤ i ∧ i < m))) H
set_option maxHeartbeats 0 in
theorem ok_IsIndex {f : Addr} {fd : FuncData} {k : Nat} (F : Fun K "is_index" "is_index" sIsIndex f fd) (Tx : Txt mg) (C_is_integer : Cal P w K mg base k "is_integer" ["value"] spInt) : FnOk P w K mg base CX0 (k + 1) f fd ["value", "many"] spIsIndex := by
  refine F.ok scIsIndex (fun vs H Q E h => ?_) (fun cdv A outer s H vs Q E hr h => ?_)
  · obtain ⟨i, m, rfl, _⟩ := h
    rfl
  · obtain ⟨i, m, rfl, q⟩ := h
    refine ⟨_, (pss_one (ps_ret (pe_and (pe_cal C_is_integer hr (by rfl) (pa_cons (pv 0) pa_nil)) (pe_one (pe_chain op_le op_lt pe_int (pv 0) (pv 1)))))), ?_⟩
    repeat infer_instance
    refine ⟨i, rfl, ?_⟩
    repeat infer_instance
    refine iteT ?_
    repeat infer_instance
    refine iteD (fun h1 => ?_) (fun h1 => ?_)
    · repeat infer_instance
      have e : decide (0 ≤ i ∧ i < m) = decide (i < m) := by rw [Bool.eq_iff_iff]; simp [h1]
      rw [← e]
      exact q
    · have e : decide (0 ≤ i ∧ i < m) = false := decide_eq_false fun z => h1 z.1
      rw [e] at q
      exact q
def spRequireIndex : Sp := fun vs H Q _ => ∃ i m : Int, vs = [.int i, .int m] ∧ 0 ≤ i ∧ i < m ∧ Q .non H
set_option maxHeartbeats 0 in
theorem ok_RequireIndex {f : Addr} {fd : FuncData} {k : Nat} (F : Fun K "require_index" "require_index" sRequireIndex f fd) (Tx : Txt mg) (C_is_index : Cal P w K mg base k "is_index" ["value", "many"] spIsIndex) : FnOk P w K mg base CX0 (k + 1) f fd ["value", "many"] spRequireIndex := by
  refine F.ok scRequireIndex (fun vs H Q E h => ?_) (fun cdv A outer s H vs Q E hr h => ?_)
  · obtain ⟨i, m, rfl, _⟩ := h
    rfl
  · obtain ⟨i, m, rfl, h0, h1, q⟩ := h
    refine ⟨_, (pss_one (ps_if (pt_not (pt_val (pe_cal C_is_index hr (by rfl) (pa_cons (pv 0) (pa_cons (pv 1) pa_nil)))))
  (pss_one ps_never) pss_nil)), ?_⟩
    repeat infer_instance
    refine ⟨i, m, rfl, ?_⟩
    rw [decide_eq_true ⟨h0, h1⟩]
    repeat infer_instance
    exact iteF q
end
end My
namespace My
open PySem PySem.Spec PyProof.Rows L2 LamX
section
variable {K : PySem.W.Frag} {H0 H H' : Hp} {T : List (Addr × Str)} {L L' : List Cell} {p : Addr} {qs : List Addr} {fam : List (List Int)} {Q : VK} {E : XK}
theorem Own.famAt (B : Own H0 H T L) (p : Addr) [P : Pull L p (.fm p qs (vv fam)) L'] : FamAt H p qs fam := ⟨B.getF p, B.rowsF p⟩
theorem u_reqF (B : Own H0 H T L) [P : Pull L p (.fm p qs (vv fam)) L'] (F : Fit fam) (k : ∀ H', Own H0 H' T L → Q .non H') : spReqF [.ref p] H Q E :=
  ⟨p, qs, fam, rfl, B.famAt p, F.1, F.2.1, F.2.2.1, F.2.2.2, fun H' s => k H' (B.same s)⟩
theorem u_placed (B : Own H0 H T L) [P : Pull L p (.fm p qs (vv fam)) L'] (F : Fit fam) (k : ∀ H' r (zs : List Rw), ExtN H H' → Tabs T H' → H' r = some (.lst (zs.map fun z => V.ref z.1)) → (∀ z ∈ zs, RowAt H' z) → zs.map (fun z => z.2.2) = srt fam → Q (.ref r) H') : spPlaced T [.ref p] H Q E :=
  ⟨p, qs, fam, rfl, B.famAt p, F.2.1, F.2.2.1, F.2.2.2, B.tb, fun H' r zs e t w h hz hzs => k H' r zs e t h (fun z hm => (hz z hm).1) hzs⟩
theorem s_gtH {a : Addr} {xs : List V} {n : Nat} {t : TGs} {v : L2.St} {Qs : L2.St → Hp → Prop} (h : H a = some (.tup xs)) (hn : xs.length = n) (k : t xs v H Qs) : gTup K n t (.ref a) v H Qs := ⟨a, xs, rfl, SqT.of h, hn, k⟩
theorem zs_flat {zs : List Rw} (nd : fam.flatten.Nodup) (hzs : zs.map (fun z => z.2.2) = srt fam) : (zs.map (fun z => z.2.2.2)).flatten = mrg fam := by
  have e : zs.map (fun z => z.2.2.2) = (srt fam).map (·.2) := by
    rw [← hzs, List.map_map]
    rfl
  rw [e]
  exact srt_flat nd
theorem idx_flat {bs : List (List Int)} {i : Nat} {b : List Int} {x : Int} (h : bs[i]? = some b) (hn : x ∉ (bs.take i).flatten) (hx : x ∈ b) : bs.flatten.idxOf x = (bs.take i).flatten.length + b.idxOf x := by
  conv => lhs; rw [split_at h]
  rw [List.flatten_append, List.flatten_cons, List.idxOf_append, if_neg hn, List.idxOf_append, if_pos hx]
  omega
theorem Fam.fit {a b : Nat} (F : Fam fam a b) (ha : a ≤ 4000) (hb : b ≤ 4000) : Fit fam := ⟨F.ne, F.nd, by have := F.tot; omega, by have := F.len; omega⟩
end
end My
namespace My
open PySem PySem.Spec PyProof.Rows L2 LamX
section
variable {K : PySem.W.Frag} {H0 H H' : Hp} {T : List (Addr × Str)} {L L' : List Cell} {p : Addr} {qs : List Addr} {fam : List (List Int)} {Q : VK} {E : XK}
theorem u_mergeQ (B : Own H0 H T L) [P : Pull L p (.fm p qs (vv fam)) L'] (F : Fit fam) (k : ∀ r H', Own H0 H' T (.ob r (.lst ((mrg fam).map V.int)) :: L) → Q (.ref r) H') : spMerge T [.ref p] H Q E :=
  ⟨p, qs, fam, rfl, B.famAt p, F.1, F.2.1, F.2.2.1, F.2.2.2, B.tb, fun H' r e t w h => k r H' (B.got e t w h trivial)⟩
end
end My
namespace My
open PySem PySem.Spec PyProof.Rows L2 LamX
local macro_rules | `(tactic| infer_instance) => `(tactic| first
  | with_reducible refine s_var (by with_unfolding_all exact rfl) ?_
  | with_reducible apply s_C
  | with_reducible apply s_op
  | with_reducible apply s_i0
  | with_reducible apply s_seq
  | with_reducible apply s_asg
  | with_reducible apply s_gn
  | with_reducible apply s_nil
  | with_reducible apply s_cons
  | with_reducible apply s_cb
  | with_reducible apply s_call
  | with_reducible apply s_un
  | with_reducible apply s_u
  | with_reducible apply s_test
  | with_reducible apply s_blV
  | with_reducible apply s_eqI
  | with_reducible apply s_neI
  | with_reducible apply s_ifs
  | with_reducible apply s_drop
  | with_reducible apply s_ret
  | with_reducible apply s_lst
  | with_reducible apply s_tup
  | with_reducible apply s_and
  | with_reducible apply s_or
  | with_reducible apply s_not
  | with_reducible apply s_tB
  | with_reducible apply s_bm
  | with_reducible apply s_bm0
  | with_reducible apply s_for
  | with_reducible apply s_iList
  | with_reducible apply s_iTup
  | with_reducible apply s_mndS
  | with_reducible apply s_srtS
  | with_reducible apply s_lc2S
  | with_reducible apply s_remS
  | with_reducible apply s_iRng
  | with_reducible apply s_iEnum
  | with_reducible apply s_iRng3
  | with_reducible apply s_iZip
  | with_reducible apply s_iZip3
  | with_reducible apply s_iRev
  | with_reducible apply s_get2S
  | with_reducible apply s_iEZ
  | with_reducible apply s_sl
  | with_reducible apply s_noPart
  | with_reducible apply s_part
  | with_reducible apply s_partI
  | with_reducible apply s_neS
  | with_reducible apply s_eqS
  | with_reducible apply s_lc
  | with_reducible apply s_dc
  | with_reducible apply s_dg
  | with_reducible apply s_di
  | with_reducible apply s_dni
  | with_reducible apply s_yes
  | with_reducible apply s_chain
  | with_reducible refine s_aug (by with_unfolding_all exact rfl) ?_
  | with_reducible apply s_ip
  | with_reducible apply s_revL
  | with_reducible apply s_gsub
  | with_reducible apply s_gslc
  | with_reducible apply s_parS
  | with_reducible apply s_par
  | with_reducible apply s_gc
  | with_reducible apply s_gnil
  | with_reducible apply s_brk
  | with_reducible apply s_cnt
  | with_reducible apply s_next
  | with_reducible apply s_andV
  | with_reducible apply s_orV
  | with_reducible apply s_notV
  | with_reducible apply s_isB
  | with_reducible apply s_notB
  | with_reducible apply s_max2
  | with_reducible apply s_min2
  | with_reducible apply s_abs
  | with_reducible apply s_intB
  | (with_reducible refine s_len (by assumption) ?_)
  | (with_reducible refine s_lenF (by assumption) ?_)
  | (with_reducible refine s_ty (by assumption) ?_)
  | (with_reducible refine s_tyF (by assumption) ?_)
  | (with_reducible refine s_i (by first | decide | exact cpow_ok (by decide) (by decide) (by decide) | exact cdivw (by decide) (by decide) | exact cmul_l (by decide) (by decide) | exact cmul_r (by decide) (by decide) | omega | exact cmul_l (by omega) (by omega) | exact cmul_r (by omega) (by omega)) ?_))

abbrev nMerged : List Str := ["family"]
theorem scMerged : FnScope nMerged ["family"] (defScope sMerged) := ⟨rfl, rfl, rfl, by decide +kernel, rfl, by decide +kernel, by decide +kernel⟩

section
variable {P : Program} {w : World} {K : PySem.W.Frag} {mg : Str → Option Value} {base : Heap}
theorem u_mergeA {H0 H : Hp} {T : List (Addr × Str)} {L : List Cell} {p : Addr} {qs : List Addr} {fam : List (List Int)} {Q : VK} {E : XK} (B : Own H0 H T L) (A : FamAt H p qs fam) (F : Fit fam) (k : ∀ r H', Own H0 H' T (.ob r (.lst ((mrg fam).map V.int)) :: L) → Q (.ref r) H') : spMerge T [.ref p] H Q E :=
  ⟨p, qs, fam, rfl, A, F.1, F.2.1, F.2.2.1, F.2.2.2, B.tb, fun H' r e t w h => k r H' (B.got e t w h trivial)⟩
theorem u_reqFA {H0 H : Hp} {T : List (Addr × Str)} {L : List Cell} {p : Addr} {qs : List Addr} {fam : List (List Int)} {Q : VK} {E : XK} (B : Own H0 H T L) (A : FamAt H p qs fam) (F : Fit fam) (k : ∀ H', Own H0 H' T L → Q .non H') : spReqF [.ref p] H Q E :=
  ⟨p, qs, fam, rfl, A, F.1, F.2.1, F.2.2.1, F.2.2.2, fun H' s => k H' (B.same s)⟩
def spMergedA (T : List (Addr × Str)) : Sp := fun vs H Q _ => ∃ (H0 : Hp) (L : List Cell) (p : Addr) (qs : List Addr) (fam : List (List Int)), vs = [.ref p] ∧ Own H0 H T L ∧ (∀ H', Own H0 H' T L → FamAt H' p qs fam) ∧ Fit fam ∧
  ∀ r H', Own H0 H' T (.ob r (.lst ((mrg fam).map V.int)) :: L) → Q (.ref r) H'
theorem u_mergedA {H0 H : Hp} {T : List (Addr × Str)} {L : List Cell} {p : Addr} {qs : List Addr} {fam : List (List Int)} {Q : VK} {E : XK} (B : Own H0 H T L) (A : ∀ H', Own H0 H' T L → FamAt H' p qs fam) (F : Fit fam) (k : ∀ r H', Own H0 H' T (.ob r (.lst ((mrg fam).map V.int)) :: L) → Q (.ref r) H') : spMergedA T [.ref p] H Q E :=
  ⟨_, _, _, _, _, rfl, B, A, F, k⟩
set_option maxHeartbeats 0 in
theorem ok_Merged {T : List (Addr × Str)} {f : Addr} {fd : FuncData} {k : Nat} (F : Fun K "merged" "merged" sMerged f fd) (Tx : Txt mg) (C_require_family : Cal P w K mg base k "require_family" ["value"] spReqF) (C_merge_queues : Cal P w K mg base k "merge_queues" ["queues"] (spMerge T)) : FnOk P w K mg base CX0 (k + 1) f fd ["family"] (spMergedA T) := by
  refine F.ok scMerged (fun vs H Q E h => ?_) (fun cdv A outer s H vs Q E hr h => ?_)
  · obtain ⟨_, _, p, qs, fam, rfl, _⟩ := h
    rfl
  · obtain ⟨H0, L, p, qs, fam, rfl, B, A, F, q⟩ := h
    refine ⟨_, (pss_cons (ps_expr (pe_cal C_require_family hr (by rfl) (pa_cons (pv 0) pa_nil)))
 (pss_one (ps_ret (pe_cal C_merge_queues hr (by rfl) (pa_cons (pv 0) pa_nil))))), ?_⟩
    repeat infer_instance
    refine u_reqFA B (A _ B) F fun H B => ?_
    repeat infer_instance
    exact u_mergeA B (A _ B) F q
end
end My
namespace My
open PySem PySem.Spec PyProof.Rows L2 LamX
section
variable {H : Hp} {σ : L2.St} {D : Ends} {x y z : V} {t : TA}
def Par3At (i j l : Nat) (D : Ends) (σ : L2.St) (vs : List V) (H : Hp) : Prop := ∃ u v w, vs = [u, v, w] ∧ D.nx (((σ.set i (some u)).set j (some v)).set l (some w)) H
theorem s_par3S {i j l : Nat} (k : t σ H fun vs H1 => Par3At i j l D σ vs H1) : tPar3 i j l t D σ H := k
theorem s_par3 {i j l : Nat} (k : D.nx (((σ.set i (some x)).set j (some y)).set l (some z)) H) : Par3At i j l D σ [x, y, z] H := ⟨x, y, z, rfl, k⟩
end
end My
namespace My
open PySem PySem.Spec PyProof.Rows L2 LamX
/-! comprehensions over the queues of a family and over a list of ints -/
theorem zf_snoc {α : Type} {qs : List Addr} {fam : List (List Int)} {p : Addr × List Int → Bool} {g : Addr × List Int → α} {i : Nat} {q : Addr} {f : List Int} (h1 : qs[i]? = some q) (h2 : fam[i]? = some f) :
    (((qs.take (i + 1)).zip (fam.take (i + 1))).filter p).map g = (((qs.take i).zip (fam.take i)).filter p).map g ++ (if p (q, f) = true then [g (q, f)] else []) := by
  have hl1 : i < qs.length := (List.getElem?_eq_some_iff.mp h1).1
  have hl2 : i < fam.length := (List.getElem?_eq_some_iff.mp h2).1
  rw [List.take_add_one, List.take_add_one, h1, h2]
  have e : (qs.take i ++ (some q).toList).zip (fam.take i ++ (some f).toList) = (qs.take i).zip (fam.take i) ++ [(q, f)] := by
    rw [List.zip_append (by rw [List.length_take, List.length_take]; omega)]; rfl
  rw [e, List.filter_append, List.map_append]
  congr 1
  cases h : p (q, f) <;> simp [h]
theorem zf_len {α : Type} {qs : List Addr} {fam : List (List Int)} {p : Addr × List Int → Bool} {g : Addr × List Int → α} : (((qs.zip fam).filter p).map g).length ≤ fam.length := by
  rw [List.length_map]
  refine Nat.le_trans (List.length_filter_le ..) ?_
  rw [List.length_zip]
  omega
section
variable {K : PySem.W.Frag} {H0 H H' : Hp} {T : List (Addr × Str)} {L L' : List Cell} {a p : Addr} {qs : List Addr} {fam : List (List Int)} {ns : List Int} {σ : L2.St} {Q : VK} {kx : Nat} {vs : List Nat} {tt : TT} {te : TE}
theorem s_lcF (pp : Addr × List Int → Bool) (g : Addr × List Int → V) (B : Own H0 H T L) [P : Pull L p (.fm p qs (vv fam)) L'] (hsm : fam.length ≤ 100000) (wp : ∀ x : V, wipe ((wipe σ vs).set kx (some x)) vs = wipe σ vs)
    (test : ∀ (D : Addr) (acc : List V) (j : Nat) (q : Addr) (f : List Int) (H : Hp) (Qb : Bool → Hp → Prop), qs[j]? = some q → fam[j]? = some f → H q = some (.lst (f.map V.int)) → Own H0 H T (.ob D (.lst acc) :: L) → (∀ H', Own H0 H' T (.ob D (.lst acc) :: L) → Qb (pp (q, f)) H') → tt ((wipe σ vs).set kx (some (.ref q))) H Qb)
    (elem : ∀ (D : Addr) (acc : List V) (j : Nat) (q : Addr) (f : List Int) (H : Hp) (Q : VK), qs[j]? = some q → fam[j]? = some f → pp (q, f) = true → H q = some (.lst (f.map V.int)) → Own H0 H T (.ob D (.lst acc) :: L) → (∀ H', Own H0 H' T (.ob D (.lst acc) :: L) → Q (g (q, f)) H') → te ((wipe σ vs).set kx (some (.ref q))) H Q)
    (last : ∀ D H, Own H0 H T (.ob D (.lst (((qs.zip fam).filter pp).map g)) :: L) → Q (.ref D) H) : LcG (Itl K p) (gName kx) tt te vs σ Q H := by
  have hl := B.lenF p
  refine s_lcL (fun i acc M => acc = (((qs.take i).zip (fam.take i)).filter pp).map g ∧ M = L) (qs.map V.ref) B ⟨by simp, rfl⟩ ?_ wp ?_ ?_
  · rintro i acc M H ⟨_, rfl⟩ B
    exact SqL.of (B.getF p)
  · rintro D i v acc M H hv ⟨rfl, rfl⟩ B
    rw [List.getElem?_map] at hv
    obtain ⟨q, hq, rfl⟩ := Option.map_eq_some_iff.mp hv
    obtain ⟨f, ef, hf⟩ := B.tail.rowOf p hq
    have sn := zf_snoc (p := pp) (g := g) hq ef
    refine test D _ i q f H _ hq ef hf B fun H1 B1 => ?_
    cases hp : pp (q, f) with
    | true =>
      refine iteT (elem D _ i q f H1 _ hq ef hp ((B1.tail.rowsF p).get i q _ hq (vv_get ef)) B1 fun H2 B2 => ?_)
      refine s_el B2 ?_ ⟨?_, rfl⟩
      · have := zf_len (qs := qs.take i) (fam := fam.take i) (p := pp) (g := g)
        rw [List.length_take] at this
        unfold sizeLine
        omega
      · rw [sn, hp]; rfl
    | false =>
      refine iteF (NoEl.mk B1 ⟨?_, rfl⟩)
      rw [sn, hp]; simp
  · rintro D acc M H ⟨rfl, rfl⟩ B
    rw [List.length_map, List.take_length, hl, List.take_length] at B
    exact last D H B
theorem s_lcI (pp : Int → Bool) (g : Int → V) (B : Own H0 H T L) (stays : ∀ H, Own H0 H T L → H a = some (.lst (ns.map V.int))) (hsm : ns.length ≤ 100000) (wp : ∀ x : V, wipe ((wipe σ vs).set kx (some x)) vs = wipe σ vs)
    (test : ∀ (D : Addr) (acc : List V) (x : Int) (H : Hp) (Qb : Bool → Hp → Prop), x ∈ ns → Own H0 H T (.ob D (.lst acc) :: L) → (∀ H', Own H0 H' T (.ob D (.lst acc) :: L) → Qb (pp x) H') → tt ((wipe σ vs).set kx (some (.int x))) H Qb)
    (elem : ∀ (D : Addr) (acc : List V) (x : Int) (H : Hp) (Q : VK), x ∈ ns → pp x = true → Own H0 H T (.ob D (.lst acc) :: L) → (∀ H', Own H0 H' T (.ob D (.lst acc) :: L) → Q (g x) H') → te ((wipe σ vs).set kx (some (.int x))) H Q)
    (last : ∀ D H, Own H0 H T (.ob D (.lst ((ns.filter pp).map g)) :: L) → Q (.ref D) H) : LcG (Itl K a) (gName kx) tt te vs σ Q H := by
  refine s_lcL (fun i acc M => acc = ((ns.take i).filter pp).map g ∧ M = L) (ns.map V.int) B ⟨by simp, rfl⟩ ?_ wp ?_ ?_
  · rintro i acc M H ⟨_, rfl⟩ B
    exact SqL.of (stays H B)
  · rintro D i v acc M H hv ⟨rfl, rfl⟩ B
    rw [List.getElem?_map] at hv
    obtain ⟨x, hx, rfl⟩ := Option.map_eq_some_iff.mp hv
    have hm := List.mem_of_getElem? hx
    have hl := (List.getElem?_eq_some_iff.mp hx).1
    have sn : (ns.take (i + 1)).filter pp = (ns.take i).filter pp ++ (if pp x = true then [x] else []) := by
      rw [List.take_add_one, hx, List.filter_append]
      congr 1
      cases h : pp x <;> simp [h]
    refine test D _ x H _ hm B fun H1 B1 => ?_
    cases hp : pp x with
    | true =>
      refine iteT (elem D _ x H1 _ hm hp B1 fun H2 B2 => ?_)
      refine s_el B2 ?_ ⟨?_, rfl⟩
      · have := List.length_filter_le pp (ns.take i)
        rw [List.length_take] at this
        rw [List.length_map]
        unfold sizeLine
        omega
      · rw [sn, hp, if_pos rfl, List.map_append]; rfl
    | false =>
      refine iteF (NoEl.mk B1 ⟨?_, rfl⟩)
      rw [sn, hp]; simp
  · rintro D acc M H ⟨rfl, rfl⟩ B
    rw [List.length_map, List.take_length] at B
    exact last D H B
end
section
variable {K : PySem.W.Frag} {H0 H H' : Hp} {T : List (Addr × Str)} {L L' : List Cell} {p : Addr} {qs : List Addr} {fam : List (List Int)} {σ : L2.St} {Q : VK} {kx : Nat} {vs : List Nat} {te : TE}
/-- [[g(x) for x in queue] for queue in family] -/
theorem s_lcMap (g : Int → Int) (B : Own H0 H T L) [P : Pull L p (.fm p qs (vv fam)) L'] (hn : fam.length ≤ 100000) (wp : ∀ x : V, wipe ((wipe σ vs).set kx (some x)) vs = wipe σ vs)
    (elem : ∀ (D : Addr) (acc : List V) (ls : List Addr) (rows : List (List V)) (j : Nat) (q : Addr) (f : List Int) (H : Hp) (Q : VK), qs[j]? = some q → fam[j]? = some f → Own H0 H T (.ob D (.lst acc) :: .rs ls rows :: L) →
      (∀ r H', Own H0 H' T (.ob r (.lst ((f.map g).map V.int)) :: .ob D (.lst acc) :: .rs ls rows :: L) → Q (.ref r) H') → te ((wipe σ vs).set kx (some (.ref q))) H Q)
    (last : ∀ c ls H, ls.length = fam.length → Own H0 H T (.fm c ls (vv (fam.map (List.map g))) :: L) → Q (.ref c) H) : LcG (Itl K p) (gName kx) tYes te vs σ Q H := by
  have hl := B.lenF p
  refine s_lcL (fun i acc M => ∃ ls : List Addr, ls.length = i ∧ acc = ls.map V.ref ∧ M = .rs ls (vv ((fam.take i).map (List.map g))) :: L) (qs.map V.ref) (Own.rs0 B) ⟨[], rfl, rfl, rfl⟩ ?_ wp ?_ ?_
  · rintro i acc M H ⟨ls, _, _, rfl⟩ B
    exact SqL.of (B.getF p)
  · rintro Dc i x acc M H hx ⟨ls, hls, rfl, rfl⟩ B
    rw [List.getElem?_map] at hx
    obtain ⟨qq, hq, rfl⟩ := Option.map_eq_some_iff.mp hx
    obtain ⟨f1, ef, hf⟩ := B.rowOf p hq
    have hi : i < fam.length := (List.getElem?_eq_some_iff.mp ef).1
    refine s_yes (iteT (elem Dc _ ls _ i qq f1 H _ hq ef B fun l H B => ?_))
    have B2 : Own H0 H T (.rs (ls ++ [l]) (vv ((fam.take i).map (List.map g)) ++ [(f1.map g).map V.int]) :: .ob Dc (.lst (ls.map V.ref)) :: L) := Own.pushR B.arr
    have e2 : vv ((fam.take i).map (List.map g)) ++ [(f1.map g).map V.int] = vv ((fam.take (i + 1)).map (List.map g)) := by rw [List.take_add_one, ef, List.map_append, vv_app]; rfl
    rw [e2] at B2
    refine s_el B2 ?_ ⟨ls ++ [l], by rw [List.length_append, hls]; rfl, by rw [List.map_append]; rfl, rfl⟩
    rw [List.length_map, hls]; unfold sizeLine; omega
  · rintro c acc M H ⟨ls, hls, rfl, rfl⟩ B
    have B := B.closeR
    rw [List.length_map, hl, List.take_length] at B
    exact last c ls H (by rw [hls, List.length_map, hl]) B
end
theorem mem_row {fam : List (List Int)} (nd : fam.flatten.Nodup) {i j : Nat} {x : Int} {f g : List Int} (e1 : fam[i]? = some f) (e2 : fam[j]? = some g) (h1 : x ∈ f) (h2 : x ∈ g) : i = j := by
  rcases Nat.lt_trichotomy i j with h | h | h
  · exfalso
    rw [split_at e2, List.flatten_append, List.flatten_cons] at nd
    have hm : f ∈ fam.take j := List.mem_iff_getElem?.mpr ⟨i, by rw [List.getElem?_take, if_pos h]; exact e1⟩
    exact (List.nodup_append.mp nd).2.2 x (List.mem_flatten.mpr ⟨f, hm, h1⟩) x (List.mem_append_left _ h2) rfl
  · exact h
  · exfalso
    rw [split_at e1, List.flatten_append, List.flatten_cons] at nd
    have hm : g ∈ fam.take i := List.mem_iff_getElem?.mpr ⟨j, by rw [List.getElem?_take, if_pos h]; exact e2⟩
    exact (List.nodup_append.mp nd).2.2 x (List.mem_flatten.mpr ⟨g, hm, h2⟩) x (List.mem_append_left _ h1) rfl
theorem Rws.put0 {H : Hp} {qs : List Addr} {bs : List (List V)} (R : Rws H qs bs) {s : Nat} {e : Addr} {b : List V} (he : H e = some (.lst b)) (n : e ∉ qs) : Rws H (qs.set s e) (bs.set s b) := by
  refine ⟨by rw [List.length_set, List.length_set, R.len], ?_, fun j q c e1 e2 => ?_⟩
  · rw [List.nodup_iff_pairwise_ne, List.pairwise_iff_getElem]
    intro i j hi hj hij
    rw [List.length_set] at hi hj
    rw [List.getElem_set, List.getElem_set]
    by_cases h1 : s = i
    · rw [if_pos h1, if_neg (by omega)]
      exact fun z => n (z ▸ List.getElem_mem _)
    · rw [if_neg h1]
      by_cases h2 : s = j
      · rw [if_pos h2]; exact fun z => n (z ▸ List.getElem_mem _)
      · rw [if_neg h2]; exact (List.pairwise_iff_getElem.mp R.nd) i j hi hj hij
  · by_cases h : s = j
    · subst h
      have hl := (List.getElem?_eq_some_iff.mp e1).1
      have hl2 := (List.getElem?_eq_some_iff.mp e2).1
      rw [List.length_set] at hl hl2
      rw [List.getElem?_set_self hl] at e1
      rw [List.getElem?_set_self hl2] at e2
      cases e1
      cases e2
      exact he
    · rw [List.getElem?_set_ne h] at e1 e2
      exact R.get j q c e1 e2
/-! families put together -/
section
variable {H0 H : Hp} {T : List (Addr × Str)} {L : List Cell} {p pa pb : Addr} {qa qb : List Addr} {ra rb : List (List V)}
theorem Rws.app2 (R1 : Rws H qa ra) (R2 : Rws H qb rb) (n : (qa ++ qb).Nodup) : Rws H (qa ++ qb) (ra ++ rb) := by
  refine ⟨by rw [List.length_append, List.length_append, R1.len, R2.len], n, fun j q b e1 e2 => ?_⟩
  rcases Nat.lt_or_ge j qa.length with z | z
  · rw [List.getElem?_append_left z] at e1
    rw [List.getElem?_append_left (R1.len ▸ z)] at e2
    exact R1.get j q b e1 e2
  · rw [List.getElem?_append_right z] at e1
    rw [List.getElem?_append_right (R1.len ▸ z), ← R1.len] at e2
    exact R2.get _ q b e1 e2
theorem Own.appR (B : Own H0 H T (.rs qa ra :: .rs qb rb :: L)) : Own H0 H T (.rs (qa ++ qb) (ra ++ rb) :: L) :=
  Own.conv (A := [.rs qa ra, .rs qb rb]) (C := [.rs (qa ++ qb) (ra ++ rb)]) B (by
    simp only [foots_cons, Cell.foot]
    show (qa ++ (qb ++ foots [])).Perm ((qa ++ qb) ++ foots [])
    rw [← List.append_assoc]) fun h nd c hc => by
      rw [List.mem_singleton.mp hc]
      refine Rws.app2 (h (.rs qa ra) (by simp)) (h (.rs qb rb) (by simp)) ?_
      have nd2 : (qa ++ (qb ++ [])).Nodup := nd
      rwa [List.append_nil] at nd2
/-- xs + ys of two families: its queues are theirs -/
theorem Own.catF (B : Own H0 H T (.ob p (.lst (qa.map V.ref ++ qb.map V.ref)) :: .fm pa qa ra :: .fm pb qb rb :: L)) : Own H0 H T (.fm p (qa ++ qb) (ra ++ rb) :: L) := by
  have B1 : Own H0 H T (.fm pa qa ra :: .fm pb qb rb :: .ob p (.lst (qa.map V.ref ++ qb.map V.ref)) :: L) := B.arr
  have B2 := B1.openR
  have B3 : Own H0 H T (.fm pb qb rb :: .rs qa ra :: .ob p (.lst (qa.map V.ref ++ qb.map V.ref)) :: L) := B2.arr
  have B4 := B3.openR
  have B5 : Own H0 H T (.rs qa ra :: .rs qb rb :: .ob p (.lst (qa.map V.ref ++ qb.map V.ref)) :: L) := B4.arr
  have B6 := B5.appR
  have B7 : Own H0 H T (.ob p (.lst (qa.map V.ref ++ qb.map V.ref)) :: .rs (qa ++ qb) (ra ++ rb) :: L) := B6.arr
  rw [← List.map_append] at B7
  exact B7.closeR
end
end My
namespace My
open PySem PySem.Spec PyProof.Rows L2 LamX
/-! blocks dealt to queues -/
/-- what the blocks of a list of numbers are like -/
structure Blks (bs : List (List Int)) : Prop where
  ok : ∀ b ∈ bs, b ≠ [] ∧ ∀ x ∈ b, x ≤ hd b
  asc : bs.Pairwise fun x y => hd x < hd y
theorem Blks.cut (q : List Int) : Blks (cut q) := ⟨fun b hb => cut_mem hb, cut_asc q⟩
theorem Blks.sub {bs cs : List (List Int)} (B : Blks bs) (s : cs.Sublist bs) : Blks cs := ⟨fun b hb => B.ok b (s.subset hb), B.asc.sublist s⟩
theorem Blks.cut_eq {bs : List (List Int)} (B : Blks bs) : My.cut bs.flatten = bs := cut_flat B.ok B.asc
def pick (j : Nat) (zs : List (Nat × List Int)) : List (List Int) := (zs.filter fun z => z.1 == j).map (·.2)
def spread (k : Nat) (zs : List (Nat × List Int)) : List (List Int) := (List.range k).map fun j => (pick j zs).flatten
theorem spread_len (k : Nat) (zs : List (Nat × List Int)) : (spread k zs).length = k := by unfold spread; rw [List.length_map, List.length_range]
theorem spread_get {k j : Nat} {zs : List (Nat × List Int)} (h : j < k) : (spread k zs)[j]? = some (pick j zs).flatten := by
  unfold spread
  rw [List.getElem?_map, List.getElem?_range h]; rfl
theorem pick_sub (j : Nat) (zs : List (Nat × List Int)) : (pick j zs).Sublist (zs.map (·.2)) := List.filter_sublist.map _
theorem pick_cut {j : Nat} {zs : List (Nat × List Int)} (B : Blks (zs.map (·.2))) : cut (pick j zs).flatten = pick j zs := (B.sub (pick_sub j zs)).cut_eq
theorem pick_pairs (j : Nat) (zs : List (Nat × List Int)) : (pick j zs).map (fun b => (j, b)) = zs.filter fun z => z.1 == j := by
  unfold pick
  rw [List.map_map]
  have e : ∀ ws : List (Nat × List Int), (∀ w ∈ ws, w.1 = j) → ws.map ((fun b => (j, b)) ∘ fun x => x.2) = ws := by
    intro ws
    induction ws with
    | nil => intro _; rfl
    | cons w ws ih =>
      intro h
      rw [List.map_cons, ih fun x hx => h x (List.mem_cons_of_mem _ hx)]
      have := h w (List.mem_cons_self ..)
      congr 1
      show (j, w.2) = w
      rw [← this]
  exact e _ fun w hw => by simpa using (List.mem_filter.mp hw).2
theorem fm_congr {α β : Type} {f g : α → List β} : ∀ {l : List α}, (∀ x ∈ l, f x = g x) → l.flatMap f = l.flatMap g
  | [], _ => rfl
  | x :: l, h => by
    rw [List.flatMap_cons, List.flatMap_cons, h x (List.mem_cons_self ..), fm_congr fun y hy => h y (List.mem_cons_of_mem _ hy)]
theorem plc_eq : ∀ (fam : List (List Int)) (k : Nat), plc k fam = (List.range fam.length).flatMap fun j => (cut (fam.getD j [])).map fun b => (k + j, b)
  | [], _ => rfl
  | q :: qs, k => by
    show (cut q).map (fun b => (k, b)) ++ plc (k + 1) qs = _
    rw [plc_eq qs (k + 1), List.length_cons, List.range_succ_eq_map, List.flatMap_cons, List.flatMap_map]
    congr 1
    refine fm_congr fun j _ => ?_
    have e : k + 1 + j = k + Nat.succ j := by omega
    rw [e]; rfl
theorem filt_perm (zs : List (Nat × List Int)) : ∀ k : Nat, ((List.range k).flatMap fun j => zs.filter fun z => z.1 == j).Perm (zs.filter fun z => decide (z.1 < k))
  | 0 => by simp
  | k + 1 => by
    rw [List.range_succ, List.flatMap_append, List.flatMap_singleton]
    have ih := (filt_perm zs k).append_right (zs.filter fun z => z.1 == k)
    refine ih.trans ?_
    have h := List.filter_append_perm (fun z : Nat × List Int => decide (z.1 < k)) (zs.filter fun z => decide (z.1 < k + 1))
    rw [List.filter_filter, List.filter_filter] at h
    have e1 : (zs.filter fun z => decide (z.1 < k) && decide (z.1 < k + 1)) = zs.filter fun z => decide (z.1 < k) := by
      refine List.filter_congr fun z _ => ?_
      rw [Bool.eq_iff_iff]; simp; omega
    have e2 : (zs.filter fun z => (!decide (z.1 < k)) && decide (z.1 < k + 1)) = zs.filter fun z => z.1 == k := by
      refine List.filter_congr fun z _ => ?_
      rw [Bool.eq_iff_iff]; simp; omega
    rw [e1, e2] at h
    exact h
theorem spread_srt {k : Nat} {zs : List (Nat × List Int)} (B : Blks (zs.map (·.2))) (hk : ∀ z ∈ zs, z.1 < k) : srt (spread k zs) = zs := by
  have e1 : plc 0 (spread k zs) = (List.range k).flatMap fun j => zs.filter fun z => z.1 == j := by
    rw [plc_eq, spread_len]
    refine fm_congr fun j hj => ?_
    have hjk := List.mem_range.mp hj
    rw [List.getD_eq_getElem?_getD, spread_get hjk, Option.getD_some, pick_cut B, Nat.zero_add, pick_pairs]
  have e2 : (zs.filter fun z => decide (z.1 < k)) = zs := List.filter_eq_self.mpr fun z hz => decide_eq_true (hk z hz)
  have p : (plc 0 (spread k zs)).Perm zs := by rw [e1]; have := filt_perm zs k; rwa [e2] at this
  unfold srt
  have nd : (zs.map fun r : Nat × List Int => hd r.2).Nodup := by
    have := B.asc
    rw [List.pairwise_map] at this
    exact List.Pairwise.map _ (fun a b h => by omega) this
  have so : zs.Pairwise fun a b => hd a.2 ≤ hd b.2 := by
    have := B.asc
    rw [List.pairwise_map] at this
    exact this.imp fun h => by omega
  exact (by_one (g := fun r : Nat × List Int => hd r.2) p.symm ((p.map _).nodup_iff.mpr nd) so).symm
/-- a family is told by its blocks and their queues -/
theorem fam_spread {fam : List (List Int)} (nd : fam.flatten.Nodup) : spread fam.length (srt fam) = fam := by
  refine List.ext_getElem? fun j => ?_
  rcases Nat.lt_or_ge j fam.length with h | h
  · rw [spread_get h, List.getElem?_eq_getElem h]
    congr 1
    have e : pick j (srt fam) = cut fam[j] := by
      have p1 : (srt fam).Perm (plc 0 fam) := by_perm _ _
      have nds : ((srt fam).map fun r : Nat × List Int => hd r.2).Nodup := by
        have e1 : ((srt fam).map fun r : Nat × List Int => hd r.2) = ((srt fam).map (·.2)).map hd := by rw [List.map_map]; rfl
        rw [e1, srt_snd nd]
        exact ((by_perm hd (cuts fam)).map hd).nodup_iff.mpr (cuts_nd nd)
      have p2 : (pick j (srt fam)).Perm (cut fam[j]) := by
        have p3 := (p1.filter fun z => z.1 == j).map (·.2)
        refine p3.trans (List.Perm.of_eq ?_)
        rw [plc_eq, List.filter_flatMap, List.map_flatMap]
        have e2 : ∀ i ∈ List.range fam.length, (((cut (fam.getD i [])).map fun b => (0 + i, b)).filter fun z => z.1 == j).map (·.2) = if i = j then cut fam[j] else [] := by
          intro i hi
          rw [Nat.zero_add]
          by_cases hij : i = j
          · subst hij
            rw [if_pos rfl, List.filter_map]
            have e3 : ((cut (fam.getD i [])).filter ((fun z : Nat × List Int => z.1 == i) ∘ fun b => (i, b))) = cut (fam.getD i []) := List.filter_eq_self.mpr fun b _ => by simp
            rw [e3, List.map_map]
            have e4 : ((fun x : Nat × List Int => x.2) ∘ fun b => (i, b)) = id := rfl
            rw [e4, List.map_id, List.getD_eq_getElem?_getD, List.getElem?_eq_getElem h, Option.getD_some]
          · rw [if_neg hij, List.filter_map]
            have e3 : ((cut (fam.getD i [])).filter ((fun z : Nat × List Int => z.1 == j) ∘ fun b => (i, b))) = [] := List.filter_eq_nil_iff.mpr fun b _ => by simp [hij]
            rw [e3]; rfl
        rw [fm_congr e2]
        have e5 : ∀ n, ((List.range n).flatMap fun i => if i = j then cut fam[j] else []) = if j < n then cut fam[j] else [] := by
          intro n
          induction n with
          | zero => rfl
          | succ n ih =>
            rw [List.range_succ, List.flatMap_append, ih, List.flatMap_singleton]
            by_cases h1 : j < n
            · have h2 : n ≠ j := by omega
              rw [if_pos h1, if_neg h2, if_pos (by omega), List.append_nil]
            · by_cases h2 : n = j
              · rw [if_neg h1, if_pos h2, if_pos (by omega), List.nil_append]
              · rw [if_neg h1, if_neg h2, if_neg (by omega), List.nil_append]
        rw [e5, if_pos h]
      have s1 : (pick j (srt fam)).Pairwise fun a b => hd a ≤ hd b := by
        have := by_sorted (fun r : Nat × List Int => hd r.2) (plc 0 fam)
        unfold pick
        rw [List.pairwise_map]
        exact List.Pairwise.sublist List.filter_sublist this
      have s2 : (cut fam[j]).Pairwise fun a b => hd a ≤ hd b := (cut_asc _).imp fun h => by omega
      have n2 : ((pick j (srt fam)).map hd).Nodup := by
        unfold pick
        rw [List.map_map]
        exact nds.sublist (List.filter_sublist.map _)
      exact sort_one p2 n2 s1 s2
    rw [e]
    exact (good_cut _).flat
  · rw [List.getElem?_eq_none (by rw [spread_len]; exact h), List.getElem?_eq_none h]
theorem srt_blks {fam : List (List Int)} (nd : fam.flatten.Nodup) : Blks ((srt fam).map (·.2)) := by
  have e : (srt fam).map (·.2) = cut (mrg fam) := by rw [cut_mrg nd, srt_snd nd]
  rw [e]; exact Blks.cut _
theorem srt_cut {fam : List (List Int)} (nd : fam.flatten.Nodup) : (srt fam).map (·.2) = cut (mrg fam) := by rw [cut_mrg nd, srt_snd nd]
theorem srt_lt {fam : List (List Int)} : ∀ z ∈ srt fam, z.1 < fam.length := by
  intro z hz
  have h := (by_perm (fun r : Nat × List Int => hd r.2) (plc 0 fam)).mem_iff.mp hz
  obtain ⟨q, h1, _, _⟩ := plc_mem fam 0 h
  exact (List.getElem?_eq_some_iff.mp h1).1
theorem spread_flat {k : Nat} {zs : List (Nat × List Int)} (hk : ∀ z ∈ zs, z.1 < k) : (spread k zs).flatten.Perm (zs.map (·.2)).flatten := by
  have e2 : (zs.filter fun z => decide (z.1 < k)) = zs := List.filter_eq_self.mpr fun z hz => decide_eq_true (hk z hz)
  have p := filt_perm zs k
  rw [e2] at p
  have p2 := (p.map (·.2)).flatten
  refine List.Perm.trans (List.Perm.of_eq ?_) p2
  unfold spread
  rw [List.map_flatMap, ← List.flatMap_def]
  have e : ∀ l : List Nat, (l.flatMap fun j => (pick j zs).flatten) = (l.flatMap fun j => (zs.filter fun z => z.1 == j).map (·.2)).flatten := by
    intro l
    induction l with
    | nil => rfl
    | cons j l ih => rw [List.flatMap_cons, List.flatMap_cons, List.flatten_append, ih]; rfl
  exact e _
/-- the number that digits write -/
def wr (k : Nat) (as : List Nat) : Nat := as.foldl (fun r i => r * k + i) 0
theorem wr_snoc (k : Nat) (as : List Nat) (i : Nat) : wr k (as ++ [i]) = wr k as * k + i := by unfold wr; rw [List.foldl_append]; rfl
theorem wr_inj' {k : Nat} : ∀ (n : Nat) {as bs : List Nat}, as.length = n → bs.length = n → (∀ a ∈ as, a < k) → (∀ b ∈ bs, b < k) → wr k as = wr k bs → as = bs
  | 0, as, bs, h1, h2, _, _, _ => by rw [List.eq_nil_of_length_eq_zero h1, List.eq_nil_of_length_eq_zero h2]
  | n + 1, as, bs, h1, h2, ha, hb, e => by
    rcases List.eq_nil_or_concat as with z | ⟨as, a, z⟩
    · rw [z] at h1; simp at h1
    rw [List.concat_eq_append] at z
    subst z
    rcases List.eq_nil_or_concat bs with z | ⟨bs, c, z⟩
    · rw [z] at h2; simp at h2
    rw [List.concat_eq_append] at z
    subst z
    rw [wr_snoc, wr_snoc] at e
    have h3 : a < k := ha a (by simp)
    have h4 : c < k := hb c (by simp)
    have hk : 0 < k := by omega
    have m1 : (wr k as * k + a) % k = a := by rw [Nat.mul_comm, Nat.mul_add_mod, Nat.mod_eq_of_lt h3]
    have m2 : (wr k bs * k + c) % k = c := by rw [Nat.mul_comm, Nat.mul_add_mod, Nat.mod_eq_of_lt h4]
    have eac : a = c := by rw [← m1, ← m2, e]
    subst eac
    have ew : wr k as = wr k bs := Nat.eq_of_mul_eq_mul_right hk (by omega)
    rw [wr_inj' n (by simpa using h1) (by simpa using h2) (fun x hx => ha x (by simp [hx])) (fun x hx => hb x (by simp [hx])) ew]
theorem wr_inj {k : Nat} {as bs : List Nat} (h : as.length = bs.length) (ha : ∀ a ∈ as, a < k) (hb : ∀ b ∈ bs, b < k) (e : wr k as = wr k bs) : as = bs := wr_inj' as.length rfl h.symm ha hb e
theorem mem_uniq {fam : List (List Int)} (nd : fam.flatten.Nodup) {i j : Nat} {f g : List Int} {x : Int} (h1 : fam[i]? = some f) (h2 : fam[j]? = some g) (hf : x ∈ f) (hg : x ∈ g) : i = j := by
  rcases Nat.lt_trichotomy i j with h | h | h
  · exfalso
    rw [split_at h1, List.flatten_append, List.flatten_cons] at nd
    have h3 : g ∈ fam.drop (i + 1) := List.mem_iff_getElem?.mpr ⟨j - (i + 1), by rw [List.getElem?_drop]; rw [show i + 1 + (j - (i + 1)) = j by omega]; exact h2⟩
    exact (List.nodup_append.mp (List.nodup_append.mp nd).2.1).2.2 x hf x (List.mem_flatten.mpr ⟨g, h3, hg⟩) rfl
  · exact h
  · exfalso
    rw [split_at h2, List.flatten_append, List.flatten_cons] at nd
    have h3 : f ∈ fam.drop (j + 1) := List.mem_iff_getElem?.mpr ⟨i - (j + 1), by rw [List.getElem?_drop]; rw [show j + 1 + (i - (j + 1)) = i by omega]; exact h1⟩
    exact (List.nodup_append.mp (List.nodup_append.mp nd).2.1).2.2 x hg x (List.mem_flatten.mpr ⟨f, h3, hf⟩) rfl
theorem where_blk {fam : List (List Int)} (nd : fam.flatten.Nodup) {i : Nat} {z : Nat × List Int} (h : (srt fam)[i]? = some z) :
    z.1 < fam.length ∧ z.2 ≠ [] ∧ (cut (mrg fam))[i]? = some z.2 ∧ ∀ j f, fam[j]? = some f → (hd z.2 ∈ f ↔ j = z.1) := by
  have hz := List.mem_of_getElem? h
  have h1 := srt_lt z hz
  have hp := (by_perm (fun r : Nat × List Int => hd r.2) (plc 0 fam)).mem_iff.mp hz
  obtain ⟨q, h2, _, h3⟩ := plc_mem fam 0 hp
  rw [Nat.sub_zero] at h2
  have ne := (cut_mem h3).1
  have hin : hd z.2 ∈ q := by
    have := (good_cut q).flat
    rw [← this]
    exact List.mem_flatten.mpr ⟨z.2, h3, hd_mem ne⟩
  refine ⟨h1, ne, by rw [← srt_cut nd, List.getElem?_map, h]; rfl, fun j f hf => ⟨fun hx => mem_uniq nd hf h2 hx hin, fun e => ?_⟩⟩
  rw [e, h2] at hf
  exact Option.some.inj hf ▸ hin
theorem hd0 {b : List Int} (h : b ≠ []) : (b.map V.int)[0]? = some (.int (hd b)) := by
  cases b with
  | nil => exact absurd rfl h
  | cons x r => rfl
theorem pick_snoc (j a : Nat) (zs : List (Nat × List Int)) (b : List Int) : pick j (zs ++ [(a, b)]) = pick j zs ++ (if a = j then [b] else []) := by
  unfold pick
  rw [List.filter_append, List.map_append]
  congr 1
  by_cases h : a = j
  · simp [h]
  · simp [h]
theorem spread_snoc {k a : Nat} {zs : List (Nat × List Int)} {b f : List Int} (e : (spread k zs)[a]? = some f) : spread k (zs ++ [(a, b)]) = (spread k zs).set a (f ++ b) := by
  have ha : a < k := by have := (List.getElem?_eq_some_iff.mp e).1; rwa [spread_len] at this
  refine List.ext_getElem? fun j => ?_
  rcases Nat.lt_or_ge j k with h | h
  · rw [spread_get h, pick_snoc]
    by_cases hj : a = j
    · subst hj
      rw [if_pos rfl, List.getElem?_set_self (by rw [spread_len]; exact h), List.flatten_append]
      rw [spread_get h] at e
      rw [← Option.some.inj e]
      simp
    · rw [if_neg hj, List.append_nil, List.getElem?_set_ne hj, spread_get h]
  · rw [List.getElem?_eq_none (by rw [spread_len]; exact h), List.getElem?_eq_none (by rw [List.length_set, spread_len]; exact h)]
theorem spread_nil (k : Nat) : spread k [] = List.replicate k [] := by
  refine List.ext_getElem? fun j => ?_
  rcases Nat.lt_or_ge j k with h | h
  · rw [spread_get h]
    simp [pick, h]
  · rw [List.getElem?_eq_none (by rw [spread_len]; exact h), List.getElem?_eq_none (by rw [List.length_replicate]; exact h)]
end My
namespace My
open PySem PySem.Spec PyProof.Rows L2 LamX
local macro_rules | `(tactic| infer_instance) => `(tactic| first
  | with_reducible refine s_var (by with_unfolding_all exact rfl) ?_
  | with_reducible apply s_C
  | with_reducible apply s_op
  | with_reducible apply s_i0
  | with_reducible apply s_seq
  | with_reducible apply s_asg
  | with_reducible apply s_gn
  | with_reducible apply s_nil
  | with_reducible apply s_cons
  | with_reducible apply s_cb
  | with_reducible apply s_call
  | with_reducible apply s_un
  | with_reducible apply s_u
  | with_reducible apply s_test
  | with_reducible apply s_blV
  | with_reducible apply s_eqI
  | with_reducible apply s_neI
  | with_reducible apply s_ifs
  | with_reducible apply s_drop
  | with_reducible apply s_ret
  | with_reducible apply s_lst
  | with_reducible apply s_tup
  | with_reducible apply s_and
  | with_reducible apply s_or
  | with_reducible apply s_not
  | with_reducible apply s_tB
  | with_reducible apply s_bm
  | with_reducible apply s_bm0
  | with_reducible apply s_for
  | with_reducible apply s_iList
  | with_reducible apply s_iTup
  | with_reducible apply s_mndS
  | with_reducible apply s_srtS
  | with_reducible apply s_lc2S
  | with_reducible apply s_remS
  | with_reducible apply s_iRng
  | with_reducible apply s_iEnum
  | with_reducible apply s_iRng3
  | with_reducible apply s_iZip
  | with_reducible apply s_iZip3
  | with_reducible apply s_iRev
  | with_reducible apply s_get2S
  | with_reducible apply s_iEZ
  | with_reducible apply s_sl
  | with_reducible apply s_noPart
  | with_reducible apply s_part
  | with_reducible apply s_partI
  | with_reducible apply s_neS
  | with_reducible apply s_eqS
  | with_reducible apply s_lc
  | with_reducible apply s_dc
  | with_reducible apply s_dg
  | with_reducible apply s_di
  | with_reducible apply s_dni
  | with_reducible apply s_yes
  | with_reducible apply s_chain
  | with_reducible refine s_aug (by with_unfolding_all exact rfl) ?_
  | with_reducible apply s_ip
  | with_reducible apply s_revL
  | with_reducible apply s_gsub
  | with_reducible apply s_gslc
  | with_reducible apply s_parS
  | with_reducible apply s_par
  | with_reducible apply s_gc
  | with_reducible apply s_gnil
  | with_reducible apply s_brk
  | with_reducible apply s_cnt
  | with_reducible apply s_next
  | with_reducible apply s_andV
  | with_reducible apply s_orV
  | with_reducible apply s_notV
  | with_reducible apply s_isB
  | with_reducible apply s_notB
  | with_reducible apply s_max2
  | with_reducible apply s_min2
  | with_reducible apply s_abs
  | with_reducible apply s_intB
  | (with_reducible refine s_len (by assumption) ?_)
  | (with_reducible refine s_lenF (by assumption) ?_)
  | (with_reducible refine s_ty (by assumption) ?_)
  | (with_reducible refine s_tyF (by assumption) ?_)
  | (with_reducible refine s_i (by first | decide | exact cpow_ok (by decide) (by decide) (by decide) | exact cdivw (by decide) (by decide) | exact cmul_l (by decide) (by decide) | exact cmul_r (by decide) (by decide) | omega | exact cmul_l (by omega) (by omega) | exact cmul_r (by omega) (by omega)) ?_))

abbrev nRankOf : List Str := ["family", "rank", "record", "index", "block"]
theorem scRankOf : FnScope nRankOf ["family"] (defScope sRankOf) := ⟨rfl, rfl, rfl, by decide +kernel, rfl, by decide +kernel, by decide +kernel⟩

/-- the number of a family -/
def rnk (fam : List (List Int)) : Nat := wr fam.length ((srt fam).map (·.1))
theorem wr_bound {k : Nat} (hk : 0 < k) : ∀ {as : List Nat}, (∀ a ∈ as, a < k) → wr k as < k ^ as.length := by
  intro as
  suffices h : ∀ n, (∀ a ∈ as.take n, a < k) → wr k (as.take n) < k ^ (as.take n).length by
    intro ha
    have := h as.length (by rw [List.take_length]; exact ha)
    rwa [List.take_length] at this
  intro n
  induction n with
  | zero => intro _; rw [List.take_zero]; show 0 < k ^ 0; simp
  | succ n ih =>
    intro ha
    rcases Nat.lt_or_ge n as.length with h | h
    · rw [List.take_add_one, List.getElem?_eq_getElem h] at ha ⊢
      show wr k (as.take n ++ [as[n]]) < k ^ (as.take n ++ [as[n]]).length
      rw [wr_snoc, List.length_append, List.length_singleton, Nat.pow_succ]
      have h1 := ih fun a hx => ha a (List.mem_append_left _ hx)
      have h2 : as[n] < k := ha _ (List.mem_append_right _ (List.mem_singleton.mpr rfl))
      have h3 : (wr k (as.take n) + 1) * k ≤ k ^ (as.take n).length * k := Nat.mul_le_mul_right _ h1
      rw [Nat.add_mul] at h3
      omega
    · have e : as.take (n + 1) = as.take n := by rw [List.take_of_length_le h, List.take_of_length_le (by omega)]
      rw [e] at ha ⊢
      exact ih ha
theorem rnk_bits {fam : List (List Int)} (h1 : fam.length ≤ 160) (h2 : fam.flatten.length ≤ 160) (n : Nat) : wr fam.length (((srt fam).map (·.1)).take n) < 2 ^ 1300 := by
  rcases Nat.eq_zero_or_pos fam.length with h | h
  · have e : fam = [] := List.eq_nil_of_length_eq_zero h
    subst e
    have e2 : srt ([] : List (List Int)) = [] := List.perm_nil.mp (by_perm _ (plc 0 []))
    rw [e2]
    simp [wr]
    exact Nat.two_pow_pos 1300
  · have hb := wr_bound h (as := ((srt fam).map (·.1)).take n) (fun a ha => by
      obtain ⟨z, hz, rfl⟩ := List.mem_map.mp (List.mem_of_mem_take ha)
      exact srt_lt z hz)
    have hl : (((srt fam).map (·.1)).take n).length ≤ 160 := by
      have h3 := (by_perm (fun r : Nat × List Int => hd r.2) (plc 0 fam)).length_eq
      have h4 := plc_len fam
      rw [List.length_take, List.length_map]
      have h5 : (srt fam).length = (plc 0 fam).length := h3
      omega
    refine Nat.lt_of_lt_of_le hb ?_
    refine Nat.le_trans (Nat.pow_le_pow_left h1 _) ?_
    refine Nat.le_trans (Nat.pow_le_pow_right (by decide) hl) ?_
    decide +kernel
section
variable {P : Program} {w : World} {K : PySem.W.Frag} {mg : Str → Option Value} {base : Heap}
def spRankOf (T : List (Addr × Str)) : Sp := fun vs H Q _ => ∃ (H0 : Hp) (L : List Cell) (p : Addr) (qs : List Addr) (fam : List (List Int)), vs = [.ref p] ∧ Own H0 H T (.fm p qs (vv fam) :: L) ∧ Fit fam ∧
  ∀ H', Own H0 H' T (.fm p qs (vv fam) :: L) → Q (.int ((rnk fam : Nat) : Int)) H'
theorem u_rankOf {H0 H : Hp} {T : List (Addr × Str)} {L L' : List Cell} {p : Addr} {qs : List Addr} {fam : List (List Int)} {Q : VK} {E : XK} (B : Own H0 H T L) [P : Pull L p (.fm p qs (vv fam)) L'] (F : Fit fam)
    (k : ∀ H', Own H0 H' T L → Q (.int ((rnk fam : Nat) : Int)) H') : spRankOf T [.ref p] H Q E := ⟨_, _, _, _, _, rfl, B.pull p, F, fun H' B' => k H' (B'.perm P.p.symm)⟩
set_option maxHeartbeats 0 in
theorem ok_RankOf {T : List (Addr × Str)} {f : Addr} {fd : FuncData} {k : Nat} (F : Fun K "rank_of" "rank_of" sRankOf f fd) (Tx : Txt mg) (C_require_family : Cal P w K mg base k "require_family" ["value"] spReqF) (C_placed_blocks : Cal P w K mg base k "placed_blocks" ["queues"] (spPlaced T)) : FnOk P w K mg base CX0 (k + 1) f fd ["family"] (spRankOf T) := by
  refine F.ok scRankOf (fun vs H Q E h => ?_) (fun cdv A outer s H vs Q E hr h => ?_)
  · obtain ⟨_, _, p, qs, fam, rfl, _⟩ := h
    rfl
  · obtain ⟨H0, L, p, qs, fam, rfl, B, F, q⟩ := h
    refine ⟨_, (pss_cons (ps_expr (pe_cal C_require_family hr (by rfl) (pa_cons (pv 0) pa_nil)))
 (pss_cons (ps_set (i := 1) scRankOf.nd rfl (.inl rfl) pe_int)
 (pss_cons (ps_for PassesOwn.never rfl (pi_list (pe_cal C_placed_blocks hr (by rfl) (pa_cons (pv 0) pa_nil))) (pg_tup (by rfl) (pgs_cons (pg_name (i := 2) scRankOf.nd rfl (Or.inl rfl)) (pgs_cons (pg_name (i := 3) scRankOf.nd rfl (Or.inl rfl)) (pgs_cons (pg_name (i := 4) scRankOf.nd rfl (Or.inl rfl)) pgs_nil))))
  (pss_one (ps_set (i := 1) scRankOf.nd rfl (.inl rfl) (pe_op op_add (pe_op op_mul (pv 1) (pe_callB (cl_len) (by rfl) Tx.len (by decide +kernel) (pa_cons (pv 0) pa_nil))) (pv 3)))))
 (pss_one (ps_ret (pv 1)))))), ?_⟩
    have hql := B.lenF p
    have hfl := F.2.2.2
    repeat infer_instance
    refine u_reqF B F fun H B => ?_
    repeat infer_instance
    refine u_placed B F fun H1 r zs ext t1 hp hz hzs => ?_
    have B := B.ext ext t1
    have htop := B.getF p
    refine s_itH hp ?_
    refine s_forL (H0 := H1) (fun i σ M => (∃ y2 y3 y4 : Option V, σ = [some (.ref p), some (.int ((wr fam.length (((srt fam).map (·.1)).take i) : Nat) : Int)), y2, y3, y4]) ∧ M = [])
      (zs.map fun z => V.ref z.1) (Own.start t1) ⟨⟨none, none, none, rfl⟩, rfl⟩ ?_ ?_ ?_
    · rintro i σ M H ⟨_, rfl⟩ C
      exact SqL.of (xlst C.ex hp)
    · rintro i v σ M H hv ⟨⟨y2, y3, y4, rfl⟩, rfl⟩ C
      rw [List.getElem?_map] at hv
      obtain ⟨z, hz1, rfl⟩ := Option.map_eq_some_iff.mp hv
      have R := (hz z (List.mem_of_getElem? hz1)).ext C.ex
      have hb : ((srt fam).map (·.1))[i]? = some z.2.2.1 := by rw [← hzs, List.map_map, List.getElem?_map, hz1]; rfl
      refine s_gtH R.tup rfl ?_
      repeat infer_instance
      refine s_lenH (xlst C.ex htop) ?_
      refine s_i (cmul_r (by rw [List.length_map]; omega) (by rw [List.length_map]; omega)) ?_
      repeat infer_instance
      refine s_inn C ⟨⟨some (.int (hd z.2.2.2)), some (.int (z.2.2.1 : Int)), some (.ref z.2.1), ?_⟩, rfl⟩
      rw [List.take_add_one, hb]
      show _ = [some (V.ref p), some (V.int ((wr fam.length (((srt fam).map (·.1)).take i ++ [z.2.2.1]) : Nat) : Int)), _, _, _]
      rw [wr_snoc, List.length_map, hql]
      rfl
    · rintro σ M H ⟨⟨y2, y3, y4, rfl⟩, rfl⟩ C
      have e : (zs.map fun z => V.ref z.1).length = ((srt fam).map (·.1)).length := by rw [← hzs, List.map_map, List.length_map, List.length_map]
      rw [e, List.take_length]
      repeat infer_instance
      exact q H (B.ext C.ex C.tb)
end
end My
namespace My
open PySem PySem.Spec PyProof.Rows L2 LamX
local macro_rules | `(tactic| infer_instance) => `(tactic| first
  | with_reducible refine s_var (by with_unfolding_all exact rfl) ?_
  | with_reducible apply s_C
  | with_reducible apply s_op
  | with_reducible apply s_i0
  | with_reducible apply s_seq
  | with_reducible apply s_asg
  | with_reducible apply s_gn
  | with_reducible apply s_nil
  | with_reducible apply s_cons
  | with_reducible apply s_cb
  | with_reducible apply s_call
  | with_reducible apply s_un
  | with_reducible apply s_u
  | with_reducible apply s_test
  | with_reducible apply s_blV
  | with_reducible apply s_eqI
  | with_reducible apply s_neI
  | with_reducible apply s_ifs
  | with_reducible apply s_drop
  | with_reducible apply s_ret
  | with_reducible apply s_lst
  | with_reducible apply s_tup
  | with_reducible apply s_and
  | with_reducible apply s_or
  | with_reducible apply s_not
  | with_reducible apply s_tB
  | with_reducible apply s_bm
  | with_reducible apply s_bm0
  | with_reducible apply s_for
  | with_reducible apply s_iList
  | with_reducible apply s_iTup
  | with_reducible apply s_mndS
  | with_reducible apply s_srtS
  | with_reducible apply s_lc2S
  | with_reducible apply s_remS
  | with_reducible apply s_iRng
  | with_reducible apply s_iEnum
  | with_reducible apply s_iRng3
  | with_reducible apply s_iZip
  | with_reducible apply s_iZip3
  | with_reducible apply s_iRev
  | with_reducible apply s_get2S
  | with_reducible apply s_iEZ
  | with_reducible apply s_sl
  | with_reducible apply s_noPart
  | with_reducible apply s_part
  | with_reducible apply s_partI
  | with_reducible apply s_neS
  | with_reducible apply s_eqS
  | with_reducible apply s_lc
  | with_reducible apply s_dc
  | with_reducible apply s_dg
  | with_reducible apply s_di
  | with_reducible apply s_dni
  | with_reducible apply s_yes
  | with_reducible apply s_chain
  | with_reducible refine s_aug (by with_unfolding_all exact rfl) ?_
  | with_reducible apply s_ip
  | with_reducible apply s_revL
  | with_reducible apply s_gsub
  | with_reducible apply s_gslc
  | with_reducible apply s_parS
  | with_reducible apply s_par
  | with_reducible apply s_gc
  | with_reducible apply s_gnil
  | with_reducible apply s_brk
  | with_reducible apply s_cnt
  | with_reducible apply s_next
  | with_reducible apply s_andV
  | with_reducible apply s_orV
  | with_reducible apply s_notV
  | with_reducible apply s_isB
  | with_reducible apply s_notB
  | with_reducible apply s_max2
  | with_reducible apply s_min2
  | with_reducible apply s_abs
  | with_reducible apply s_intB
  | (with_reducible refine s_len (by assumption) ?_)
  | (with_reducible refine s_lenF (by assumption) ?_)
  | (with_reducible refine s_ty (by assumption) ?_)
  | (with_reducible refine s_tyF (by assumption) ?_)
  | (with_reducible refine s_i (by first | decide | exact cpow_ok (by decide) (by decide) (by decide) | exact cdivw (by decide) (by decide) | exact cmul_l (by decide) (by decide) | exact cmul_r (by decide) (by decide) | omega | exact cmul_l (by omega) (by omega) | exact cmul_r (by omega) (by omega)) ?_))

abbrev nSpreadBlocks : List Str := ["blocks", "assignment", "many", "family", "_", "block", "index"]
theorem scSpreadBlocks : FnScope nSpreadBlocks ["blocks", "assignment", "many"] (defScope sSpreadBlocks) := ⟨rfl, rfl, rfl, by decide +kernel, rfl, by decide +kernel, by decide +kernel⟩

section
variable {P : Program} {w : World} {K : PySem.W.Frag} {mg : Str → Option Value} {base : Heap}
theorem u_split {H0 H : Hp} {T : List (Addr × Str)} {L : List Cell} {a : Addr} {ns : List Int} {Q : VK} {E : XK} (B : Own H0 H T L) (h : H a = some (.lst (ns.map V.int))) (hl : ns.length ≤ 4000) (k : ∀ p qs H', Own H0 H' T (.fm p qs (vv (cut ns)) :: L) → Q (.ref p) H') : spSplit [.ref a] H Q E :=
  ⟨a, ns, rfl, h, hl, fun H' p qs N => k p qs H' (B.addF N.same N.freshp N.fresh N.off N.top N.rows)⟩
theorem u_req {H0 H : Hp} {T : List (Addr × Str)} {L : List Cell} {a : Addr} {ns : List Int} {Q : VK} {E : XK} (B : Own H0 H T L) (h : H a = some (.lst (ns.map V.int))) (nd : ns.Nodup) (hl : ns.length ≤ 4000) (k : ∀ H', Own H0 H' T L → Same H H' → Q .non H') : spReq [.ref a] H Q E :=
  ⟨a, ns, rfl, h, nd, hl, fun H' s => k H' (B.same s) s⟩
abbrev nI (as : List Nat) : List Int := as.map fun a : Nat => (a : Int)
def spSpreadBlocks : Sp := fun vs H Q _ => ∃ (H0 : Hp) (T : List (Addr × Str)) (L L1 L2 : List Cell) (pb pa : Addr) (qb : List Addr) (bs : List (List Int)) (as : List Nat) (k : Nat), vs = [.ref pb, .ref pa, .int (k : Int)] ∧ Own H0 H T L ∧ Pull L pb (.fm pb qb (vv bs)) L1 ∧ Pull L pa (.ob pa (.lst ((nI as).map V.int))) L2 ∧ as.length = bs.length ∧ (∀ a ∈ as, a < k) ∧ k ≤ 1000 ∧ bs.flatten.length ≤ 100000 ∧
  ∀ p qs H', Own H0 H' T (.fm p qs (vv (spread k (as.zip bs))) :: L) → Q (.ref p) H'
theorem u_spread {H0 H : Hp} {T : List (Addr × Str)} {L L1 L2 : List Cell} {pb pa : Addr} {qb : List Addr} {bs : List (List Int)} {as : List Nat} {k : Nat} {Q : VK} {E : XK} (B : Own H0 H T L) [P1 : Pull L pb (.fm pb qb (vv bs)) L1] [P2 : Pull L pa (.ob pa (.lst ((nI as).map V.int))) L2] (h1 : as.length = bs.length) (h2 : ∀ a ∈ as, a < k) (h3 : k ≤ 1000) (h4 : bs.flatten.length ≤ 100000)
    (c : ∀ p qs H', Own H0 H' T (.fm p qs (vv (spread k (as.zip bs))) :: L) → Q (.ref p) H') : spSpreadBlocks [.ref pb, .ref pa, .int (k : Int)] H Q E := ⟨_, _, _, _, _, _, _, _, _, _, _, rfl, B, P1, P2, h1, h2, h3, h4, c⟩
set_option maxHeartbeats 0 in
theorem ok_SpreadBlocks {f : Addr} {fd : FuncData} {k : Nat} (F : Fun K "spread_blocks" "spread_blocks" sSpreadBlocks f fd) (Tx : Txt mg)  : FnOk P w K mg base CX0 (k + 1) f fd ["blocks", "assignment", "many"] spSpreadBlocks := by
  refine F.ok scSpreadBlocks (fun vs H Q E h => ?_) (fun cdv A outer s H vs Q E hr h => ?_)
  · obtain ⟨_, _, _, _, _, pb, pa, qb, bs, as, k, rfl, _⟩ := h
    rfl
  · obtain ⟨H0, T, L, L1, L2', pb, pa, qb, bs, as, k, rfl, B, P1, P2, hl, ha, hk, htot, q⟩ := h
    refine ⟨_, (pss_cons (ps_setLc (i := 3) (te := (tLst tNil)) (tt := tYes) (own := [("_", 4)]) (g := (gName 4)) (by rfl) scSpreadBlocks.nd rfl rfl (sw_true rfl rfl rfl (by decide +kernel)) (pi_range1 (by rfl) Tx.range (pa_cons (pv 2) pa_nil)) (blkOk_by (own := [("_", 4)]) (N := nSpreadBlocks) (sc := defScope sSpreadBlocks) (by decide +kernel)) (fun _ _ _ _ _ => (pg_name (i := 4) scSpreadBlocks.nd rfl (Or.inl rfl))) (fun _ _ _ _ _ => pts_nil) (fun _ _ _ _ _ => (pe_lst pa_nil)))
 (pss_cons (ps_for PassesOwn.never rfl (RZ.pi_zipA (by rfl) Tx.zip (pa_cons (pv 0) (pa_cons (pv 1) pa_nil))) (pg_tup (by rfl) (pgs_cons (pg_name (i := 5) scSpreadBlocks.nd rfl (Or.inl rfl)) (pgs_cons (pg_name (i := 6) scSpreadBlocks.nd rfl (Or.inl rfl)) pgs_nil)))
  (pss_one (ps_expr (pe_bm PySem.F.plainAttrs_list PySem.F.slot_list_extend PySem.F.type_list_extend mt_extend (pe_ix ix_list (pv 3) (pv 6) (fun _ _ => rfl)) (pa_cons (pv 5) pa_nil)))))
 (pss_one (ps_ret (pv 3))))), ?_⟩
    have hlb := B.lenF pb
    repeat infer_instance
    refine s_itR (by omega) (by omega) ?_
    rw [Int.toNat_natCast]
    refine s_lcEmpty B (by omega) (fun _ => rfl) fun pf qf H hqf B => ?_
    repeat infer_instance
    refine s_itZ (SqL.of (B.getF pb)) (SqL.of (B.get pa)) ?_
    refine s_forZ (fun i σ M => (∃ y5 y6 : Option V, σ = [some (.ref pb), some (.ref pa), some (.int (k : Int)), some (.ref pf), none, y5, y6]) ∧ M = .fm pf qf (vv (spread k ((as.take i).zip (bs.take i)))) :: L) (qb.map V.ref) ((nI as).map V.int) (by rw [List.length_map, List.length_map, List.length_map, hlb, hl])
      (show Own H0 H T (.fm pf qf (vv (spread k ((as.take 0).zip (bs.take 0)))) :: L) by rw [List.take_zero, List.take_zero, List.zip_nil_left, spread_nil]; exact B) ⟨⟨none, none, rfl⟩, rfl⟩ ?_ ?_ ?_
    · rintro i σ M H ⟨_, rfl⟩ B
      exact ⟨SqL.of (B.getF pb), SqL.of (B.get pa)⟩
    · rintro i x y σ M H hx hy ⟨⟨y5, y6, rfl⟩, rfl⟩ B
      rw [List.getElem?_map] at hx
      obtain ⟨qq, hq, rfl⟩ := Option.map_eq_some_iff.mp hx
      obtain ⟨b, hb, hrow⟩ := B.rowOf pb hq
      rw [List.getElem?_map, List.getElem?_map] at hy
      obtain ⟨a, hay, rfl⟩ : ∃ a, as[i]? = some a ∧ V.int ((a : Nat) : Int) = y := by
        cases h : as[i]? with
        | none => rw [h] at hy; cases hy
        | some a => rw [h] at hy; exact ⟨a, rfl, Option.some.inj hy⟩
      have hak := ha a (List.mem_of_getElem? hay)
      have hgl : a < (spread k ((as.take i).zip (bs.take i))).length := by rw [spread_len]; exact hak
      obtain ⟨f, hf⟩ : ∃ f, (spread k ((as.take i).zip (bs.take i)))[a]? = some f := ⟨_, List.getElem?_eq_getElem hgl⟩
      obtain ⟨qr, hq1, hq2⟩ := B.qrow pf hf
      repeat infer_instance
      refine s_ixF B hq1 ?_
      refine s_tyH hq2 ?_
      repeat infer_instance
      refine s_extendV B pf hq1 hf hrow ?_ fun H B => ?_
      · have hlt : ∀ w ∈ (as.take i).zip (bs.take i), w.1 < k := fun w hw => ha _ (List.mem_of_mem_take (List.of_mem_zip hw).1)
        have e1 := flat_mem_len (List.mem_of_getElem? hf)
        rw [(spread_flat hlt).length_eq] at e1
        have e2 : ((as.take i).zip (bs.take i)).map (·.2) = bs.take i := List.map_snd_zip (by rw [List.length_take, List.length_take]; omega)
        rw [e2] at e1
        have e3 := flat_take_len (fam := bs) i
        have e4 := flat_mem_len (List.mem_of_getElem? hb)
        unfold sizeLine; omega
      have e6 : (as.take (i + 1)).zip (bs.take (i + 1)) = (as.take i).zip (bs.take i) ++ [(a, b)] := by
        rw [List.take_add_one, List.take_add_one, hay, hb, List.zip_append (by rw [List.length_take, List.length_take]; omega)]; rfl
      rw [← spread_snoc hf, ← e6] at B
      exact s_inn B ⟨⟨_, _, rfl⟩, rfl⟩
    · rintro σ M H ⟨⟨y5, y6, rfl⟩, rfl⟩ B
      rw [List.length_map, hlb] at B
      rw [List.take_length, ← hl, List.take_length] at B
      repeat infer_instance
      exact q pf qf H B
end
end My
namespace My
open PySem PySem.Spec PyProof.Rows L2
/-! xs[::c] -/
def tStepL (K : PySem.W.Frag) (te : TE) : TE := fun σ H Q => te σ H fun x H1 => ∃ a xs, x = .ref a ∧ SqL K H1 a xs ∧ ∀ p ys, (∀ y ∈ ys, y ∈ xs) → ys.length ≤ xs.length → H1 p = none → Q (.ref p) (upd H1 p (.lst ys))
theorem vals_at : ∀ {xs : List V} {its : List Value}, Vals xs its → ∀ i : Nat, (xs[i]? = none ∧ its[i]? = none) ∨ ∃ a b, xs[i]? = some a ∧ its[i]? = some b ∧ RelV a b
  | _, _, .nil, i => .inl ⟨by simp, by simp⟩
  | _, _, .cons h t, 0 => .inr ⟨_, _, rfl, rfl, h⟩
  | _, _, .cons h t, i + 1 => vals_at t i
theorem vals_pick {xs : List V} {its : List Value} (h : Vals xs its) : ∀ idx : List Nat, Vals (idx.filterMap fun i => xs[i]?) (idx.filterMap fun i => its[i]?)
  | [] => .nil
  | i :: idx => by
    have ih := vals_pick h idx
    rcases vals_at h i with ⟨h1, h2⟩ | ⟨a, b, h1, h2, r⟩
    · rw [List.filterMap_cons_none h1, List.filterMap_cons_none h2]; exact ih
    · rw [List.filterMap_cons_some h1, List.filterMap_cons_some h2]; exact .cons r ih
theorem pe_step {X : Cx} {e : Expr} {te : TE} {c : Int} {k : Nat} {p1 p3 pos : Pos} (hc : c ≠ 0) (he : PE X e te) : PE X (.Subscript e (.Slice none none (some (.Constant (.int c) k p1)) p3) pos) (tStepL X.K te) := by
  refine ⟨fun pins s σ H Q I h => Subscript_ (thn (he.run pins s σ H _ I h) fun v s1 ⟨x, H1, I1, r1, a, xs, ex, hx, q⟩ => ?_)⟩
  subst ex
  cases r1
  refine wpAny_Slice (thn (po_none.run pins s1 σ H1 (fun o H2 => o = none ∧ H2 = H1) I1 ⟨rfl, rfl⟩) fun vl s2 ⟨l, H2, I2, pl, el, e2⟩ => ?_)
  subst el
  subst e2
  refine thn (po_none.run pins s2 σ H2 (fun o H3 => o = none ∧ H3 = H2) I2 ⟨rfl, rfl⟩) fun vu s3 ⟨u, H3, I3, pu, eu, e3⟩ => ?_
  subst eu
  subst e3
  refine thn ((po_some pe_int).run pins s3 σ H3 (fun o H4 => o = some c ∧ H4 = H3) I3 ⟨c, rfl, rfl, rfl⟩) fun vs s4 ⟨o, H4, I4, ps, eo, e4⟩ => ?_
  subst eo
  subst e4
  have I5 : L2.Inv X pins σ H4 { s4 with heap := s4.heap.push { cls := Value.type "slice", data := Data.fields #[vl, vu, vs] } } := Inv.kept I4 fun b ob q => Heap.get?_push_of_some { cls := Value.type "slice", data := Data.fields #[vl, vu, vs] } q
  obtain ⟨its, r, ht, hz⟩ := I5.list hx
  have hlen := Vals.length r
  have hsz : its.toArray.size ≤ sizeLine := by rw [List.size_toArray, ← hlen]; exact hz
  refine tail_any (Heap.IsList.typeIs (PlainL.isList ht)) slot_list_getitem.lookup (wpAny_getItem_list_slice (PlainL.isList ht) (Heap.IsSliceOf.new s4.heap vl vu vs) pl pu ps (by simpa using hc) ?_ hsz) rfl
  have hsl := slicePick_size_le its.toArray none none (some c)
  obtain ⟨idx, hidx⟩ : ∃ idx : List Nat, slicePick its.toArray none none (some c) = (idx.filterMap fun i => its[i]?).toArray := by
    refine ⟨sliceRange (sliceBounds none none (some c) its.toArray.size).1 (sliceBounds none none (some c) its.toArray.size).2.1 (sliceBounds none none (some c) its.toArray.size).2.2, ?_⟩
    · unfold slicePick
      have e : (fun x : Nat => its.toArray[x]?) = fun i => its[i]? := by funext i; simp
      rw [e]
  rw [hidx] at hsl ⊢
  rw [List.size_toArray, List.size_toArray] at hsl
  have vp := vals_pick r idx
  have vl2 := Vals.length vp
  refine ⟨.ref _, upd H4 _ (.lst (idx.filterMap fun i => xs[i]?)), Inv.laid I5 (fun b ob q => Heap.get?_push_of_some _ q) (Nat.le_refl _) ⟨by rw [vl2]; omega, _, 0, vp, Heap.get?_push_size _ rfl⟩, rfl, q _ _ (fun y hy => ?_) (by rw [vl2, hlen]; exact hsl) (I5.hok.fresh (Nat.le_refl _))⟩
  obtain ⟨i, _, hi⟩ := List.mem_filterMap.mp hy
  exact List.mem_of_getElem? hi
section
variable {K : PySem.W.Frag} {H0 H : Hp} {T : List (Addr × Str)} {L : List Cell} {a : Addr} {ns : List Int} {σ : L2.St} {Q : VK} {te : TE}
def StepAt (K : PySem.W.Frag) (x : V) (H1 : Hp) (Q : VK) : Prop := ∃ a xs, x = .ref a ∧ SqL K H1 a xs ∧ ∀ p ys, (∀ y ∈ ys, y ∈ xs) → ys.length ≤ xs.length → H1 p = none → Q (.ref p) (upd H1 p (.lst ys))
theorem s_stepS (k : te σ H fun x H1 => StepAt K x H1 Q) : tStepL K te σ H Q := k
theorem s_step (B : Own H0 H T L) (h : H a = some (.lst (ns.map V.int))) (k : ∀ p (ys : List Int) H', (∀ y ∈ ys, y ∈ ns) → ys.length ≤ ns.length → Own H0 H' T (.ob p (.lst (ys.map V.int)) :: L) → Q (.ref p) H') : StepAt K (.ref a) H Q := by
  refine ⟨a, _, rfl, SqL.of h, fun p ys h1 h2 n => ?_⟩
  have all : ∀ ys : List V, (∀ y ∈ ys, y ∈ ns.map V.int) → ∃ zs : List Int, ys = zs.map V.int ∧ ∀ z ∈ zs, z ∈ ns := by
    intro ys
    induction ys with
    | nil => intro _; exact ⟨[], rfl, fun _ h => nomatch h⟩
    | cons y ys ih =>
      intro hy
      obtain ⟨zs, e, hz⟩ := ih fun z hz => hy z (List.mem_cons_of_mem _ hz)
      obtain ⟨z, hzn, ez⟩ := List.mem_map.mp (hy y (List.mem_cons_self ..))
      refine ⟨z :: zs, by rw [e, ← ez]; rfl, fun w hw => ?_⟩
      rcases List.mem_cons.mp hw with c | c
      · rw [c]; exact hzn
      · exact hz w c
  obtain ⟨zs, rfl, hz⟩ := all ys h1
  exact k p zs _ hz (by rw [List.length_map, List.length_map] at h2; exact h2) (B.new n trivial)
end
end My
namespace My
theorem map_erI {α β : Type} (f : α → β) : ∀ (xs : List α) (n : Nat), (xs.map f).eraseIdx n = (xs.eraseIdx n).map f
  | [], n => by simp
  | x :: xs, 0 => by simp
  | x :: xs, n + 1 => by simp [map_erI f xs n]
theorem er_perm {ys : List Int} {i : Nat} {x : Int} (h : ys[i]? = some x) : ys.Perm (x :: ys.eraseIdx i) := (erase_perm h).symm
end My
namespace My
open PySem PySem.Spec PyProof.Rows L2 LamX
/-- 0, 1, .. as ints -/
abbrev rngI (n : Nat) : List Int := (List.range n).map fun i : Nat => (i : Int)
theorem cr_rng1 {X : Cx} : CallR X (.type "range") rRng1 := cr_range1
section
variable {H0 H : Hp} {T : List (Addr × Str)} {L L' : List Cell} {r : Addr} {n : Nat} {j : Int} {Q : VK}
theorem s_rng1 (B : Own H0 H T L) (k : ∀ p H', Own H0 H' T (.ob p (.rng 0 j) :: L) → Q (.ref p) H') : rRng1 [.int j] H Q := ⟨j, rfl, fun p n => k p _ (B.new n trivial)⟩
theorem s_listR (B : Own H0 H T L) [P : Pull L r (.ob r (.rng 0 (n : Int))) L'] (h : n ≤ 100000) (k : ∀ p H', Own H0 H' T (.ob p (.lst ((rngI n).map V.int)) :: L) → Q (.ref p) H') : rListR [.ref r] H Q := by
  refine ⟨r, n, rfl, B.get r, h, fun l nl => k l _ ?_⟩
  have b := B.new (o := .lst ((List.range n).map fun i : Nat => V.int (i : Int))) nl trivial
  rw [show (rngI n).map V.int = (List.range n).map fun i : Nat => V.int (i : Int) from by unfold rngI; rw [List.map_map]; rfl]
  exact b
end
end My
namespace My
open PySem PySem.Spec PyProof.Rows L2 LamX
/-! lengths, slots, tables of ways -/
abbrev nis (ls : List Nat) : List Int := ls.map fun j : Nat => (j : Int)
abbrev Slot := Nat × Nat × Nat
def slotsF : Nat → Nat → List Nat → List Slot
  | _, _, [] => []
  | i, w, l :: ls => if 0 < l then (i, w, l) :: slotsF (i + 1) (w * (l + 1)) ls else slotsF (i + 1) w ls
def wgtF (w : Nat) (ls : List Nat) : Nat := ls.foldl (fun a l => a * (l + 1)) w
def fullF (ss : List Slot) : Nat := (ss.map fun s => s.2.1 * s.2.2).sum
/-- there is room for so many more -/
def okS (s ρ : Nat) (sl : Slot) : Bool := decide (ρ / sl.2.1 % (sl.2.2 + 1) + s ≤ sl.2.2)
def stepF (ss : List Slot) (s : Nat) (f : Nat → Nat) (ρ : Nat) : Nat := (ss.map fun sl => if s * sl.2.1 ≤ ρ ∧ okS s (ρ - s * sl.2.1) sl = true then f (ρ - s * sl.2.1) else 0).sum
def waysF (ss : List Slot) : List Nat → Nat → Nat
  | [], ρ => if ρ = 0 then 1 else 0
  | s :: bs, ρ => stepF ss s (waysF ss bs) ρ
/-- the slots lie one above the other -/
structure SlOk (cap : Nat) (ss : List Slot) : Prop where
  pos : ∀ s ∈ ss, 0 < s.2.1
  div : ∀ s ∈ ss, ∃ c, cap = s.2.1 * (s.2.2 + 1) * c
theorem wgtF_dvd : ∀ (ls : List Nat) (w : Nat), ∃ c, wgtF w ls = w * c
  | [], w => ⟨1, (Nat.mul_one w).symm⟩
  | l :: ls, w => by
    obtain ⟨c, hc⟩ := wgtF_dvd ls (w * (l + 1))
    exact ⟨(l + 1) * c, by show wgtF (w * (l + 1)) ls = _; rw [hc, Nat.mul_assoc]⟩
theorem slots_ok : ∀ (ls : List Nat) (i w : Nat), 0 < w → SlOk (wgtF w ls) (slotsF i w ls)
  | [], i, w, _ => ⟨(fun s h => nomatch h), fun s h => nomatch h⟩
  | l :: ls, i, w, hw => by
    have ih := slots_ok ls (i + 1) (w * (l + 1)) (Nat.mul_pos hw (Nat.succ_pos l))
    show SlOk (wgtF (w * (l + 1)) ls) (if 0 < l then _ else _)
    by_cases h : 0 < l
    · rw [if_pos h]
      refine ⟨fun s hs => ?_, fun s hs => ?_⟩
      · rcases List.mem_cons.mp hs with e | e
        · rw [e]; exact hw
        · exact ih.pos s e
      · rcases List.mem_cons.mp hs with e | e
        · rw [e]; exact wgtF_dvd ls _
        · exact ih.div s e
    · rw [if_neg h]
      have e0 : l = 0 := by omega
      subst e0
      have := slots_ok ls (i + 1) w hw
      rw [show w * (0 + 1) = w from Nat.mul_one w]
      exact this
/-- what is put into a slot stays below the cap -/
theorem slot_cap {cap w l ρ s c : Nat} (hw : 0 < w) (hc : cap = w * (l + 1) * c) (hρ : ρ < cap) (ok : ρ / w % (l + 1) + s ≤ l) : ρ + s * w < cap := by
  have h1 := Nat.div_add_mod ρ w
  have h2 := Nat.div_add_mod (ρ / w) (l + 1)
  have h3 := Nat.mod_lt ρ hw
  have hq : ρ / w / (l + 1) < c := by
    rw [Nat.div_div_eq_div_mul]
    exact Nat.div_lt_of_lt_mul (by rw [← hc]; exact hρ)
  obtain ⟨a, ha⟩ : ∃ a, a = ρ % w := ⟨_, rfl⟩
  obtain ⟨d, hd⟩ : ∃ d, d = ρ / w % (l + 1) := ⟨_, rfl⟩
  obtain ⟨e, he⟩ : ∃ e, e = ρ / w / (l + 1) := ⟨_, rfl⟩
  rw [← hd, ← he] at h2
  rw [← ha] at h1 h3
  rw [← hd] at ok
  rw [← he] at hq
  rw [← h2] at h1
  have h4 : (l + 1) * e + d + s + 1 ≤ (l + 1) * c := by
    have := Nat.mul_le_mul_left (l + 1) hq
    rw [Nat.mul_succ] at this
    omega
  have h5 := Nat.mul_le_mul_left w h4
  have h6 : w * ((l + 1) * e + d + s + 1) = w * ((l + 1) * e + d) + s * w + w := by
    rw [Nat.mul_add, Nat.mul_add, Nat.mul_one, Nat.mul_comm w s]
  rw [hc, Nat.mul_assoc]
  omega
theorem stepF_cap {cap : Nat} {ss : List Slot} (S : SlOk cap ss) {s : Nat} {f : Nat → Nat} (hf : ∀ ρ, f ρ ≠ 0 → ρ < cap) : ∀ ρ, stepF ss s f ρ ≠ 0 → ρ < cap := by
  intro ρ h
  unfold stepF at h
  have : ∃ sl ∈ ss, (if s * sl.2.1 ≤ ρ ∧ okS s (ρ - s * sl.2.1) sl = true then f (ρ - s * sl.2.1) else 0) ≠ 0 := by
    apply Classical.byContradiction
    intro c
    refine h ?_
    have all : ∀ sl ∈ ss, (if s * sl.2.1 ≤ ρ ∧ okS s (ρ - s * sl.2.1) sl = true then f (ρ - s * sl.2.1) else 0) = 0 := fun sl hs => Classical.byContradiction fun z => c ⟨sl, hs, z⟩
    rw [List.map_congr_left all]
    clear h c all S
    induction ss with
    | nil => rfl
    | cons a ss ih => rw [List.map_cons, List.sum_cons, ih]
  obtain ⟨sl, hs, h2⟩ := this
  by_cases c : s * sl.2.1 ≤ ρ ∧ okS s (ρ - s * sl.2.1) sl = true
  · rw [if_pos c] at h2
    obtain ⟨k, hk⟩ := S.div sl hs
    have := slot_cap (S.pos sl hs) hk (hf _ h2) (of_decide_eq_true c.2)
    omega
  · rw [if_neg c] at h2
    exact absurd rfl h2
theorem waysF_cap {cap : Nat} {ss : List Slot} (S : SlOk cap ss) (h0 : 0 < cap) : ∀ (bs : List Nat) (ρ : Nat), waysF ss bs ρ ≠ 0 → ρ < cap
  | [], ρ, h => by
    unfold waysF at h
    by_cases e : ρ = 0
    · rw [e]; exact h0
    · rw [if_neg e] at h; exact absurd rfl h
  | s :: bs, ρ, h => stepF_cap S (waysF_cap S h0 bs) ρ h
/-- a dict that tells f -/
structure DTab (kvs : List (Key × V)) (f : Nat → Nat) : Prop where
  keys : ∀ p ∈ kvs, ∃ ρ : Nat, p.1 = .inl (ρ : Int)
  nd : (kvs.map (·.1)).Nodup
  val : ∀ ρ : Nat, valV kvs (.inl (ρ : Int)) = if f ρ = 0 then none else some (.int (f ρ : Nat))
theorem valV_mem {kvs : List (Key × V)} {k : Key} (h : valV kvs k = none) : ∀ p ∈ kvs, p.1 ≠ k := by
  intro p hp e
  unfold valV at h
  rw [Option.map_eq_none_iff, List.find?_eq_none] at h
  exact h p hp (by simpa using e)
theorem valV_at {kvs : List (Key × V)} (nd : (kvs.map (·.1)).Nodup) {p : Key × V} (hp : p ∈ kvs) : valV kvs p.1 = some p.2 := by
  induction kvs with
  | nil => cases hp
  | cons q r ih =>
    rw [List.map_cons] at nd
    have n := List.nodup_cons.mp nd
    rcases List.mem_cons.mp hp with e | e
    · subst e
      exact valV_pos rfl
    · rw [show valV (q :: r) p.1 = valV r p.1 from valV_neg fun z => n.1 (z ▸ List.mem_map_of_mem e)]
      exact ih n.2 e
theorem DTab.at {kvs : List (Key × V)} {f : Nat → Nat} (h : DTab kvs f) {p : Key × V} (hp : p ∈ kvs) : ∃ ρ : Nat, p.1 = .inl (ρ : Int) ∧ f ρ ≠ 0 ∧ p.2 = .int (f ρ : Nat) := by
  obtain ⟨ρ, e⟩ := h.keys p hp
  have h1 := valV_at h.nd hp
  rw [e, h.val ρ] at h1
  by_cases z : f ρ = 0
  · rw [if_pos z] at h1; cases h1
  · rw [if_neg z] at h1
    exact ⟨ρ, e, z, (Option.some.inj h1).symm⟩
theorem DTab.len {kvs : List (Key × V)} {f : Nat → Nat} {cap : Nat} (h : DTab kvs f) (hf : ∀ ρ, f ρ ≠ 0 → ρ < cap) : kvs.length ≤ cap := by
  have sub : ∀ k ∈ kvs.map (·.1), k ∈ (List.range cap).map fun i : Nat => (Sum.inl (i : Int) : Key) := fun k hk => by
    obtain ⟨p, hp, rfl⟩ := List.mem_map.mp hk
    obtain ⟨ρ, e, z, _⟩ := h.at hp
    exact List.mem_map.mpr ⟨ρ, List.mem_range.mpr (hf ρ z), e.symm⟩
  have := List.Nodup.length_le_of_subset h.nd sub
  rwa [List.length_map, List.length_map, List.length_range] at this
theorem putK_keys (kvs : List (Key × V)) (k : Key) (v : V) : (putK kvs k v).map (·.1) = if (kvs.any fun kv => decide (kv.1 = k)) = true then kvs.map (·.1) else kvs.map (·.1) ++ [k] := by
  unfold putK
  by_cases h : (kvs.any fun kv => decide (kv.1 = k)) = true
  · rw [if_pos h, if_pos h, List.map_map]
    refine List.map_congr_left fun p _ => ?_
    show (if p.1 = k then (p.1, v) else p).1 = p.1
    split <;> rfl
  · rw [if_neg h, if_neg h, List.map_append]; rfl
/-- one more way to ρ -/
theorem DTab.put {kvs : List (Key × V)} {f : Nat → Nat} (h : DTab kvs f) (ρ n : Nat) (hn : n ≠ 0) : DTab (putK kvs (.inl (ρ : Int)) (.int ((f ρ + n : Nat) : Int))) (fun x => f x + if x = ρ then n else 0) := by
  have ek := putK_keys kvs (.inl (ρ : Int)) (.int ((f ρ + n : Nat) : Int))
  refine ⟨fun p hp => ?_, ?_, fun x => ?_⟩
  · have hm : p.1 ∈ (putK kvs (.inl (ρ : Int)) (.int ((f ρ + n : Nat) : Int))).map (·.1) := List.mem_map_of_mem hp
    rw [ek] at hm
    have old : p.1 ∈ kvs.map (·.1) → ∃ ρ : Nat, p.1 = .inl (ρ : Int) := fun z => by
      obtain ⟨q, hq, e⟩ := List.mem_map.mp z
      obtain ⟨y, hy⟩ := h.keys q hq
      exact ⟨y, by rw [← e, hy]⟩
    split at hm
    · exact old hm
    · rcases List.mem_append.mp hm with z | z
      · exact old z
      · exact ⟨ρ, List.mem_singleton.mp z⟩
  · rw [ek]
    split
    · exact h.nd
    · rename_i hany
      refine List.nodup_append.mpr ⟨h.nd, by simp, fun a ha b hb e => hany ?_⟩
      rw [List.mem_singleton.mp hb] at e
      obtain ⟨q, hq, e2⟩ := List.mem_map.mp ha
      exact List.any_eq_true.mpr ⟨q, hq, by rw [e2, e]; simp⟩
  · rw [valV_put]
    by_cases e : x = ρ
    · subst e
      rw [if_pos rfl]
      show _ = if (f x + if x = x then n else 0) = 0 then none else some (V.int ((f x + if x = x then n else 0 : Nat) : Int))
      rw [if_pos rfl, if_neg (by omega)]
    · rw [if_neg (fun z => e (by have := Sum.inl.inj z; omega)), h.val x]
      show _ = if (f x + if x = ρ then n else 0) = 0 then none else some (V.int ((f x + if x = ρ then n else 0 : Nat) : Int))
      rw [if_neg e, Nat.add_zero]
theorem DTab.getD {kvs : List (Key × V)} {f : Nat → Nat} (h : DTab kvs f) (ρ : Nat) : (valV kvs (.inl (ρ : Int))).getD (.int 0) = .int (f ρ : Nat) := by
  rw [h.val ρ]
  by_cases e : f ρ = 0
  · rw [if_pos e, e]; rfl
  · rw [if_neg e]; rfl
/-- the ways that come to x from some of the pairs (state before, slot) -/
def fromP (s : Nat) (f : Nat → Nat) (ps : List (Nat × Slot)) (x : Nat) : Nat := (ps.map fun p => if okS s p.1 p.2 = true ∧ p.1 + s * p.2.2.1 = x then f p.1 else 0).sum
theorem fromP_snoc (s : Nat) (f : Nat → Nat) (ps : List (Nat × Slot)) (p : Nat × Slot) : fromP s f (ps ++ [p]) = fun x => fromP s f ps x + if okS s p.1 p.2 = true ∧ p.1 + s * p.2.2.1 = x then f p.1 else 0 := by
  funext x
  unfold fromP
  rw [List.map_append, List.sum_append]; simp
theorem fromP_app (s : Nat) (f : Nat → Nat) (ps qs : List (Nat × Slot)) (x : Nat) : fromP s f (ps ++ qs) x = fromP s f ps x + fromP s f qs x := by
  unfold fromP
  rw [List.map_append, List.sum_append]
/-- over all states and slots: the step -/
theorem sum_zero {α : Type} {g : α → Nat} : ∀ {xs : List α}, (∀ x ∈ xs, g x = 0) → (xs.map g).sum = 0
  | [], _ => rfl
  | x :: xs, h => by rw [List.map_cons, List.sum_cons, h x (List.mem_cons_self ..), sum_zero fun y hy => h y (List.mem_cons_of_mem _ hy)]
theorem sum_one {g : Nat → Nat} {r : Nat} : ∀ {xs : List Nat}, xs.Nodup → (∀ x ∈ xs, x ≠ r → g x = 0) → (xs.map g).sum = if r ∈ xs then g r else 0
  | [], _, _ => rfl
  | x :: xs, nd, h => by
    have n := List.nodup_cons.mp nd
    rw [List.map_cons, List.sum_cons]
    by_cases e : x = r
    · subst e
      rw [if_pos (List.mem_cons_self ..), sum_zero fun y hy => h y (List.mem_cons_of_mem _ hy) fun z => n.1 (z ▸ hy)]
      omega
    · rw [h x (List.mem_cons_self ..) e, sum_one n.2 fun y hy => h y (List.mem_cons_of_mem _ hy)]
      have : (r ∈ x :: xs) = (r ∈ xs) := by simp; intro z; exact absurd z.symm e
      simp [this, e, Ne.symm e]
theorem sum_add {α : Type} (g h : α → Nat) : ∀ xs : List α, (xs.map fun x => g x + h x).sum = (xs.map g).sum + (xs.map h).sum
  | [] => rfl
  | x :: xs => by rw [List.map_cons, List.sum_cons, List.map_cons, List.sum_cons, List.map_cons, List.sum_cons, sum_add g h xs]; omega
theorem fromP_all {s : Nat} {f : Nat → Nat} {ρs : List Nat} (nd : ρs.Nodup) (hf : ∀ ρ, f ρ ≠ 0 → ρ ∈ ρs) (hz : ∀ ρ ∈ ρs, f ρ ≠ 0) (ss : List Slot) (x : Nat) : fromP s f (ρs.flatMap fun ρ => ss.map fun sl => (ρ, sl)) x = stepF ss s f x := by
  have go : ∀ (ρs : List Nat), fromP s f (ρs.flatMap fun ρ => ss.map fun sl => (ρ, sl)) x = (ss.map fun sl => (ρs.map fun ρ => if okS s ρ sl = true ∧ ρ + s * sl.2.1 = x then f ρ else 0).sum).sum := by
    intro ρs
    induction ρs with
    | nil => exact (sum_zero fun _ _ => rfl).symm
    | cons ρ ρs ih =>
      rw [List.flatMap_cons, fromP_app, ih]
      have e : (fun sl : Slot => ((ρ :: ρs).map fun ρ => if okS s ρ sl = true ∧ ρ + s * sl.2.1 = x then f ρ else 0).sum) = fun sl => (if okS s ρ sl = true ∧ ρ + s * sl.2.1 = x then f ρ else 0) + (ρs.map fun ρ => if okS s ρ sl = true ∧ ρ + s * sl.2.1 = x then f ρ else 0).sum := by
        funext sl
        rw [List.map_cons, List.sum_cons]
      rw [e, sum_add]
      congr 1
      unfold fromP
      rw [List.map_map]; rfl
  rw [go]
  unfold stepF
  congr 1
  refine List.map_congr_left fun sl _ => ?_
  by_cases le : s * sl.2.1 ≤ x
  · rw [sum_one (r := x - s * sl.2.1) nd (fun y hy hne => if_neg fun z => hne (by omega))]
    by_cases m : x - s * sl.2.1 ∈ ρs
    · rw [if_pos m]
      by_cases ok : okS s (x - s * sl.2.1) sl = true
      · rw [if_pos ⟨ok, by omega⟩, if_pos ⟨le, ok⟩]
      · rw [if_neg fun z => ok z.1, if_neg fun z => ok z.2]
    · rw [if_neg m]
      by_cases ok : s * sl.2.1 ≤ x ∧ okS s (x - s * sl.2.1) sl = true
      · rw [if_pos ok]
        exact (Classical.byContradiction fun z => m (hf _ z)).symm
      · rw [if_neg ok]
  · rw [sum_zero (fun y hy => if_neg fun z => le (by omega)), if_neg fun z => le z.1]
end My
namespace My
open PySem PySem.Spec PyProof.Rows L2 LamX
theorem wgtF_ge : ∀ (ls : List Nat) (w : Nat), w ≤ wgtF w ls
  | [], w => Nat.le_refl _
  | l :: ls, w => Nat.le_trans (Nat.le_mul_of_pos_right w (Nat.succ_pos l)) (wgtF_ge ls (w * (l + 1)))
theorem wgtF_take : ∀ (ls : List Nat) (w i : Nat), wgtF w (ls.take i) ≤ wgtF w ls
  | [], w, i => by rw [List.take_nil]; exact Nat.le_refl _
  | l :: ls, w, 0 => wgtF_ge (l :: ls) w
  | l :: ls, w, i + 1 => wgtF_take ls (w * (l + 1)) i
theorem wgtF_snoc (w : Nat) (ls : List Nat) (l : Nat) : wgtF w (ls ++ [l]) = wgtF w ls * (l + 1) := by unfold wgtF; rw [List.foldl_append]; rfl
theorem wgtF_mem : ∀ (ls : List Nat) (w l : Nat), 0 < w → l ∈ ls → l + 1 ≤ wgtF w ls
  | l0 :: ls, w, l, hw, h => by
    rcases List.mem_cons.mp h with e | e
    · subst e
      exact Nat.le_trans (Nat.le_mul_of_pos_left (l + 1) hw) (wgtF_ge ls (w * (l + 1)))
    · exact wgtF_mem ls (w * (l0 + 1)) l (Nat.mul_pos hw (Nat.succ_pos l0)) e
section
variable {K : PySem.W.Frag} {H : Hp} {a : Addr} {xs : List V} {Q : VK}
theorem s_isLst (h : H a = some (.lst xs)) (k : Q (.bl true) H) : rIsi K [.ref a, .ty "list"] H Q := ⟨.ref a, .ty "list", .type "list", .type "list", true, rfl, .ty _, .base (.lst h), kit_ll, k⟩
end
local macro_rules | `(tactic| infer_instance) => `(tactic| first
  | with_reducible refine s_var (by with_unfolding_all exact rfl) ?_
  | with_reducible apply s_C
  | with_reducible apply s_op
  | with_reducible apply s_i0
  | with_reducible apply s_seq
  | with_reducible apply s_asg
  | with_reducible apply s_gn
  | with_reducible apply s_nil
  | with_reducible apply s_cons
  | with_reducible apply s_cb
  | with_reducible apply s_call
  | with_reducible apply s_un
  | with_reducible apply s_u
  | with_reducible apply s_test
  | with_reducible apply s_blV
  | with_reducible apply s_eqI
  | with_reducible apply s_neI
  | with_reducible apply s_ifs
  | with_reducible apply s_drop
  | with_reducible apply s_ret
  | with_reducible apply s_lst
  | with_reducible apply s_tup
  | with_reducible apply s_and
  | with_reducible apply s_or
  | with_reducible apply s_not
  | with_reducible apply s_tB
  | with_reducible apply s_bm
  | with_reducible apply s_bm0
  | with_reducible apply s_for
  | with_reducible apply s_iList
  | with_reducible apply s_iTup
  | with_reducible apply s_mndS
  | with_reducible apply s_srtS
  | with_reducible apply s_lc2S
  | with_reducible apply s_remS
  | with_reducible apply s_iRng
  | with_reducible apply s_iEnum
  | with_reducible apply s_iRng3
  | with_reducible apply s_iZip
  | with_reducible apply s_iZip3
  | with_reducible apply s_iRev
  | with_reducible apply s_get2S
  | with_reducible apply s_iEZ
  | with_reducible apply s_sl
  | with_reducible apply s_noPart
  | with_reducible apply s_part
  | with_reducible apply s_partI
  | with_reducible apply s_neS
  | with_reducible apply s_eqS
  | with_reducible apply s_lc
  | with_reducible apply s_dc
  | with_reducible apply s_dg
  | with_reducible apply s_di
  | with_reducible apply s_dni
  | with_reducible apply s_yes
  | with_reducible apply s_chain
  | with_reducible refine s_aug (by with_unfolding_all exact rfl) ?_
  | with_reducible apply s_ip
  | with_reducible apply s_revL
  | with_reducible apply s_gsub
  | with_reducible apply s_gslc
  | with_reducible apply s_parS
  | with_reducible apply s_par
  | with_reducible apply s_gc
  | with_reducible apply s_gnil
  | with_reducible apply s_brk
  | with_reducible apply s_cnt
  | with_reducible apply s_next
  | with_reducible apply s_andV
  | with_reducible apply s_orV
  | with_reducible apply s_notV
  | with_reducible apply s_isB
  | with_reducible apply s_notB
  | with_reducible apply s_max2
  | with_reducible apply s_min2
  | with_reducible apply s_abs
  | with_reducible apply s_intB
  | (with_reducible refine s_len (by assumption) ?_)
  | (with_reducible refine s_lenF (by assumption) ?_)
  | (with_reducible refine s_ty (by assumption) ?_)
  | (with_reducible refine s_tyF (by assumption) ?_)
  | (with_reducible refine s_i (by first | decide | exact cpow_ok (by decide) (by decide) (by decide) | exact cdivw (by decide) (by decide) | exact cmul_l (by decide) (by decide) | exact cmul_r (by decide) (by decide) | omega | exact cmul_l (by omega) (by omega) | exact cmul_r (by omega) (by omega)) ?_))

abbrev nAreLengths : List Str := ["value", "length"]
theorem scAreLengths : FnScope nAreLengths ["value"] (defScope sAreLengths) := ⟨rfl, rfl, rfl, by decide +kernel, rfl, by decide +kernel, by decide +kernel⟩

abbrev nRequireLengths : List Str := ["value", "cases", "length"]
theorem scRequireLengths : FnScope nRequireLengths ["value"] (defScope sRequireLengths) := ⟨rfl, rfl, rfl, by decide +kernel, rfl, by decide +kernel, by decide +kernel⟩

section
variable {P : Program} {w : World} {K : PySem.W.Frag} {mg : Str → Option Value} {base : Heap}
def spAreLengths : Sp := fun vs H Q _ => ∃ (H0 : Hp) (T : List (Addr × Str)) (L : List Cell) (a : Addr) (ls : List Nat), vs = [.ref a] ∧ Own H0 H T L ∧ (∀ H', Own H0 H' T L → H' a = some (.lst ((nis ls).map V.int))) ∧ ls ≠ [] ∧ ls.length ≤ 1000 ∧ ∀ H', Own H0 H' T L → Q (.bl true) H'
set_option maxHeartbeats 0 in
theorem ok_AreLengths {f : Addr} {fd : FuncData} {k : Nat} (F : Fun K "are_lengths" "are_lengths" sAreLengths f fd) (Tx : Txt mg) (C_is_integer : Cal P w K mg base k "is_integer" ["value"] spInt) : FnOk P w K mg base CX0 (k + 1) f fd ["value"] spAreLengths := by
  refine F.ok scAreLengths (fun vs H Q E h => ?_) (fun cdv A outer s H vs Q E hr h => ?_)
  · obtain ⟨_, _, _, a, ls, rfl, _⟩ := h
    rfl
  · obtain ⟨H0, T, L, a, ls, rfl, B, A, ne, hl, q⟩ := h
    refine ⟨_, (pss_cons (ps_if (PW.pt (pw_or (pt_not (pt_val (pe_callB (call_isi) (by rfl) Tx.isi (by decide +kernel) (pa_cons (pv 0) (pa_cons (pe_bltn (by rfl) Tx.list (by decide +kernel) (v := .ty "list") rfl) pa_nil))))) (pw_or1 (pt_cmpR op_eq (pe_callB (cl_len) (by rfl) Tx.len (by decide +kernel) (pa_cons (pv 0) pa_nil)) pe_int (by rfl)))))
  (pss_one (ps_ret pe_bl)) pss_nil)
 (pss_one (ps_ret (pe_callB ((cr_all (by rfl))) (by rfl) Tx.all (by decide +kernel) (pa_cons (pe_lc (te := (tAndV (tCall spInt [] E0 (tCons (tVar 1) tNil)) (tOp (rI0 fun i j => .bl (decide (j ≤ i))) (tVar 1) (tC (.int 0))))) (tt := tYes) (own := [("length", 1)]) (g := (gName 1)) (by rfl) scAreLengths.nd (pi_list (pv 0)) (blkOk_by (own := [("length", 1)]) (N := nAreLengths) (sc := defScope sAreLengths) (by decide +kernel)) (fun _ _ _ _ _ => (pg_name (i := 1) scAreLengths.nd rfl (Or.inl rfl))) (fun _ _ _ _ _ => pts_nil) (fun _ _ _ _ _ => (pe_and (pe_cal C_is_integer hr (by rfl) (pa_cons (pv 1) pa_nil)) (pe_one (pe_cmpR op_ge (pv 1) pe_int (by rfl)))))) pa_nil))))), ?_⟩
    have ha := A _ B
    have lpos := List.length_pos_iff.mpr ne
    repeat infer_instance
    refine s_isLst ha ?_
    repeat infer_instance
    refine iteF ?_
    repeat infer_instance
    refine s_lenS (SqL.of ha) ?_
    repeat infer_instance
    rw [List.length_map, List.length_map, decide_eq_false (by omega)]
    refine iteF ?_
    repeat infer_instance
    refine s_itH ha ?_
    refine s_lcI (ns := nis ls) (fun _ => true) (fun _ => .bl true) B A (by rw [List.length_map]; omega) (fun _ => rfl) (fun D acc x H Qb _ B k => k H B) (fun D acc x H Q hx _ B k => ?_) fun D H B => ?_
    · obtain ⟨j, _, rfl⟩ := List.mem_map.mp hx
      repeat infer_instance
      refine ⟨_, rfl, ?_⟩
      repeat infer_instance
      refine iteT ?_
      repeat infer_instance
      rw [decide_eq_true (show (0 : Int) ≤ ((j : Nat) : Int) by omega)]
      exact k H B
    rw [List.filter_eq_self.mpr (fun _ _ => rfl)] at B
    repeat infer_instance
    refine ⟨D, (nis ls).map fun _ => true, rfl, SqL.of (by rw [B.get D, show ((nis ls).map fun _ => true).map V.bl = (nis ls).map fun _ => V.bl true from List.map_map ..]), ?_⟩
    rw [show ((nis ls).map fun _ => true).all id = true from List.all_eq_true.mpr fun x hx => by obtain ⟨_, _, rfl⟩ := List.mem_map.mp hx; rfl]
    exact q H B.tail
def spRequireLengths : Sp := fun vs H Q _ => ∃ (H0 : Hp) (T : List (Addr × Str)) (L : List Cell) (a : Addr) (ls : List Nat), vs = [.ref a] ∧ Own H0 H T L ∧ (∀ H', Own H0 H' T L → H' a = some (.lst ((nis ls).map V.int))) ∧ ls ≠ [] ∧ ls.length ≤ 1000 ∧ wgtF 1 ls ≤ 20000 ∧ ∀ H', Own H0 H' T L → Q .non H'
set_option maxHeartbeats 0 in
theorem ok_RequireLengths {f : Addr} {fd : FuncData} {k : Nat} (F : Fun K "require_lengths" "require_lengths" sRequireLengths f fd) (Tx : Txt mg) (C_are_lengths : Cal P w K mg base k "are_lengths" ["value"] spAreLengths) : FnOk P w K mg base CX0 (k + 1) f fd ["value"] spRequireLengths := by
  refine F.ok scRequireLengths (fun vs H Q E h => ?_) (fun cdv A outer s H vs Q E hr h => ?_)
  · obtain ⟨_, _, _, a, ls, rfl, _⟩ := h
    rfl
  · obtain ⟨H0, T, L, a, ls, rfl, B, A, ne, hl, hw, q⟩ := h
    refine ⟨_, (pss_cons (ps_if (pt_not (pt_val (pe_cal C_are_lengths hr (by rfl) (pa_cons (pv 0) pa_nil))))
  (pss_one ps_never) pss_nil)
 (pss_cons (ps_set (i := 1) scRequireLengths.nd rfl (.inl rfl) pe_int)
 (pss_cons (ps_for PassesOwn.never rfl (pi_list (pv 0)) (pg_name (i := 2) scRequireLengths.nd rfl (Or.inl rfl))
  (pss_one (ps_set (i := 1) scRequireLengths.nd rfl (.inl rfl) (pe_op op_mul (pv 1) (pe_op op_add (pv 2) pe_int)))))
 (pss_one (ps_if (pt_cmpR op_gt (pv 1) (pe_gInt (by rfl) Tx.g_MOST_CASES) (by rfl))
  (pss_one ps_never) pss_nil))))), ?_⟩
    repeat infer_instance
    refine ⟨_, _, _, a, ls, rfl, B, A, ne, hl, fun H B => ?_⟩
    repeat infer_instance
    refine iteF ?_
    repeat infer_instance
    refine s_itH (A _ B) ?_
    refine s_forL (fun i σ M => (∃ y2 : Option V, σ = [some (.ref a), some (.int ((wgtF 1 (ls.take i) : Nat) : Int)), y2]) ∧ M = L) ((nis ls).map V.int) B ⟨⟨none, rfl⟩, rfl⟩ ?_ ?_ ?_
    · rintro i σ M H ⟨_, rfl⟩ B
      exact SqL.of (A _ B)
    · rintro i v σ M H hv ⟨⟨y2, rfl⟩, rfl⟩ B
      rw [List.getElem?_map, List.getElem?_map] at hv
      obtain ⟨x, hx, rfl⟩ := Option.map_eq_some_iff.mp hv
      obtain ⟨l, hx2, rfl⟩ := Option.map_eq_some_iff.mp hx
      have w1 := wgtF_take ls 1 i
      have l1 := wgtF_mem ls 1 l Nat.one_pos (List.mem_of_getElem? hx2)
      repeat infer_instance
      refine s_inn B ⟨⟨some (.int ((l : Nat) : Int)), ?_⟩, rfl⟩
      have et : ls.take (i + 1) = ls.take i ++ [l] := by rw [List.take_add_one, hx2]; rfl
      have e : ((wgtF 1 (ls.take i) : Nat) : Int) * (((l : Nat) : Int) + 1) = ((wgtF 1 (ls.take (i + 1)) : Nat) : Int) := by rw [et, wgtF_snoc, Int.natCast_mul]; rfl
      rw [e]; rfl
    · rintro σ M H ⟨⟨y2, rfl⟩, rfl⟩ B
      rw [List.length_map, List.length_map, List.take_length]
      repeat infer_instance
      rw [decide_eq_false (by omega)]
      refine iteF ?_
      repeat infer_instance
      exact q H B
end
end My
namespace My
open PySem PySem.Spec PyProof.Rows L2 LamX
/-- the slots, tuples in a list -/
structure SlAt (H : Hp) (sp : Addr) (ts : List Addr) (ss : List Slot) : Prop where
  top : H sp = some (.lst (ts.map V.ref))
  len : ts.length = ss.length
  tup : ∀ (j : Nat) (t : Addr) (s : Slot), ts[j]? = some t → ss[j]? = some s → H t = some (.tup [.int (s.1 : Int), .int (s.2.1 : Int), .int (s.2.2 : Int)])
def slotC (ss : List Slot) (ts : List Addr) : List Cell := (ss.zip ts).map fun z => .ob z.2 (.tup [.int (z.1.1 : Int), .int (z.1.2.1 : Int), .int (z.1.2.2 : Int)])
theorem slotC_snoc {ss : List Slot} {ts : List Addr} {s : Slot} {t : Addr} (h : ss.length = ts.length) : slotC (ss ++ [s]) (ts ++ [t]) = slotC ss ts ++ [.ob t (.tup [.int (s.1 : Int), .int (s.2.1 : Int), .int (s.2.2 : Int)])] := by
  unfold slotC
  rw [List.zip_append h, List.map_append]; rfl
theorem slotC_at {H0 H : Hp} {T : List (Addr × Str)} {L : List Cell} {ss : List Slot} {ts : List Addr} (B : Own H0 H T L) (sub : ∀ c ∈ slotC ss ts, c ∈ L) : ∀ (j : Nat) (t : Addr) (s : Slot), ts[j]? = some t → ss[j]? = some s → H t = some (.tup [.int (s.1 : Int), .int (s.2.1 : Int), .int (s.2.2 : Int)]) := fun j t s h1 h2 =>
  (B.ok _ (sub _ (List.mem_map.mpr ⟨(s, t), List.mem_iff_getElem?.mpr ⟨j, List.getElem?_zip_eq_some.mpr ⟨h2, h1⟩⟩, rfl⟩))).1
theorem slots_len : ∀ (ls : List Nat) (i w : Nat), (slotsF i w ls).length ≤ ls.length
  | [], _, _ => Nat.le_refl _
  | l :: ls, i, w => by
    show (if 0 < l then _ else _ : List Slot).length ≤ ls.length + 1
    split
    · have := slots_len ls (i + 1) (w * (l + 1))
      rw [List.length_cons]; omega
    · have := slots_len ls (i + 1) w
      omega
section
variable {K : PySem.W.Frag} {H0 H : Hp} {T : List (Addr × Str)} {L : List Cell} {a : Addr} {tt : TT} {te : TE} {σ : L2.St} {Q : VK}
/-- [.. for a, b, c in a list of tuples] -/
theorem s_lc3T {k1 k2 k3 : Nat} {vs : List Nat} (Pv : Nat → List V → List Cell → Prop) (xs : List V) (B : Own H0 H T L) (start : Pv 0 [] L) (stays : ∀ i acc L H, Pv i acc L → Own H0 H T L → SqL K H a xs)
    (turn : ∀ D i x acc L H, xs[i]? = some x → Pv i acc L → Own H0 H T (.ob D (.lst acc) :: L) → ∃ t u v z, x = .ref t ∧ H t = some (.tup [u, v, z]) ∧ wipe ((((wipe σ vs).set k1 (some u)).set k2 (some v)).set k3 (some z)) vs = wipe σ vs ∧
      tt ((((wipe σ vs).set k1 (some u)).set k2 (some v)).set k3 (some z)) H fun b H3 =>
      if b = true then te ((((wipe σ vs).set k1 (some u)).set k2 (some v)).set k3 (some z)) H3 fun y H4 => ∃ acc, H4 D = some (.lst acc) ∧ acc.length < sizeLine ∧ NoEl H0 T D (Pv (i + 1)) (upd H4 D (.lst (acc ++ [y]))) else NoEl H0 T D (Pv (i + 1)) H3)
    (last : ∀ D acc L H, Pv xs.length acc L → Own H0 H T (.ob D (.lst acc) :: L) → Q (.ref D) H) : LcG (Itl K a) (gTup K 3 (gCons (gName k1) (gCons (gName k2) (gCons (gName k3) gNil)))) tt te vs σ Q H := fun D nD =>
  lc_list (K := K) (a := a) (xs := xs) (fun i => NoEl H0 T D (Pv i)) ⟨[], L, B.new nD trivial, start⟩ (fun i H _ ⟨acc, L, B, h⟩ => stays i acc L H h B.tail)
    (fun i x H hx ⟨acc, L, B, h⟩ => by
      obtain ⟨t, u, v, z, e, ht, hw, k⟩ := turn D i x acc L H hx h B
      subst e
      exact ⟨t, _, rfl, SqT.of ht, rfl, _, _, rfl, _, _, rfl, _, _, rfl, rfl, hw, k⟩) (fun H ⟨acc, L, B, h⟩ => last D acc L H h B)
theorem s_gt3 {xs : List V} {n : Nat} {t : TGs} {v : L2.St} {Qs : L2.St → Hp → Prop} (h : H a = some (.tup xs)) (hn : xs.length = n) (k : t xs v H Qs) : gTup K n t (.ref a) v H Qs := ⟨a, xs, rfl, SqT.of h, hn, k⟩
end
local macro_rules | `(tactic| infer_instance) => `(tactic| first
  | with_reducible refine s_var (by with_unfolding_all exact rfl) ?_
  | with_reducible apply s_C
  | with_reducible apply s_op
  | with_reducible apply s_i0
  | with_reducible apply s_seq
  | with_reducible apply s_asg
  | with_reducible apply s_gn
  | with_reducible apply s_nil
  | with_reducible apply s_cons
  | with_reducible apply s_cb
  | with_reducible apply s_call
  | with_reducible apply s_un
  | with_reducible apply s_u
  | with_reducible apply s_test
  | with_reducible apply s_blV
  | with_reducible apply s_eqI
  | with_reducible apply s_neI
  | with_reducible apply s_ifs
  | with_reducible apply s_drop
  | with_reducible apply s_ret
  | with_reducible apply s_lst
  | with_reducible apply s_tup
  | with_reducible apply s_and
  | with_reducible apply s_or
  | with_reducible apply s_not
  | with_reducible apply s_tB
  | with_reducible apply s_bm
  | with_reducible apply s_bm0
  | with_reducible apply s_for
  | with_reducible apply s_iList
  | with_reducible apply s_iTup
  | with_reducible apply s_mndS
  | with_reducible apply s_srtS
  | with_reducible apply s_lc2S
  | with_reducible apply s_remS
  | with_reducible apply s_iRng
  | with_reducible apply s_iEnum
  | with_reducible apply s_iRng3
  | with_reducible apply s_iZip
  | with_reducible apply s_iZip3
  | with_reducible apply s_iRev
  | with_reducible apply s_get2S
  | with_reducible apply s_iEZ
  | with_reducible apply s_sl
  | with_reducible apply s_noPart
  | with_reducible apply s_part
  | with_reducible apply s_partI
  | with_reducible apply s_neS
  | with_reducible apply s_eqS
  | with_reducible apply s_lc
  | with_reducible apply s_dc
  | with_reducible apply s_dg
  | with_reducible apply s_di
  | with_reducible apply s_dni
  | with_reducible apply s_yes
  | with_reducible apply s_chain
  | with_reducible refine s_aug (by with_unfolding_all exact rfl) ?_
  | with_reducible apply s_ip
  | with_reducible apply s_revL
  | with_reducible apply s_gsub
  | with_reducible apply s_gslc
  | with_reducible apply s_parS
  | with_reducible apply s_par
  | with_reducible apply s_gc
  | with_reducible apply s_gnil
  | with_reducible apply s_brk
  | with_reducible apply s_cnt
  | with_reducible apply s_next
  | with_reducible apply s_andV
  | with_reducible apply s_orV
  | with_reducible apply s_notV
  | with_reducible apply s_isB
  | with_reducible apply s_notB
  | with_reducible apply s_max2
  | with_reducible apply s_min2
  | with_reducible apply s_abs
  | with_reducible apply s_intB
  | (with_reducible refine s_len (by assumption) ?_)
  | (with_reducible refine s_lenF (by assumption) ?_)
  | (with_reducible refine s_ty (by assumption) ?_)
  | (with_reducible refine s_tyF (by assumption) ?_)
  | (with_reducible refine s_i (by first | decide | exact cpow_ok (by decide) (by decide) (by decide) | exact cdivw (by decide) (by decide) | exact cmul_l (by decide) (by decide) | exact cmul_r (by decide) (by decide) | omega | exact cmul_l (by omega) (by omega) | exact cmul_r (by omega) (by omega)) ?_))

abbrev nSlotsOf : List Str := ["lengths", "slots", "weight", "index", "length"]
theorem scSlotsOf : FnScope nSlotsOf ["lengths"] (defScope sSlotsOf) := ⟨rfl, rfl, rfl, by decide +kernel, rfl, by decide +kernel, by decide +kernel⟩

abbrev nFullRoom : List Str := ["slots", "index", "weight", "length"]
theorem scFullRoom : FnScope nFullRoom ["slots"] (defScope sFullRoom) := ⟨rfl, rfl, rfl, by decide +kernel, rfl, by decide +kernel, by decide +kernel⟩

abbrev nRoomIn : List Str := ["room", "slot", "index", "weight", "length"]
theorem scRoomIn : FnScope nRoomIn ["room", "slot"] (defScope sRoomIn) := ⟨rfl, rfl, rfl, by decide +kernel, rfl, by decide +kernel, by decide +kernel⟩

section
variable {P : Program} {w : World} {K : PySem.W.Frag} {mg : Str → Option Value} {base : Heap}
def spSlotsOf : Sp := fun vs H Q _ => ∃ (H0 : Hp) (T : List (Addr × Str)) (L : List Cell) (a : Addr) (ls : List Nat), vs = [.ref a] ∧ Own H0 H T L ∧ (∀ H', Own H0 H' T L → H' a = some (.lst ((nis ls).map V.int))) ∧ ls.length ≤ 1000 ∧ wgtF 1 ls ≤ 20000 ∧
  ∀ sp ts H', ts.length = (slotsF 0 1 ls).length → Own H0 H' T (.ob sp (.lst (ts.map V.ref)) :: (slotC (slotsF 0 1 ls) ts ++ L)) → Q (.ref sp) H'
set_option maxHeartbeats 0 in
theorem ok_SlotsOf {f : Addr} {fd : FuncData} {k : Nat} (F : Fun K "slots_of" "slots_of" sSlotsOf f fd) (Tx : Txt mg)  : FnOk P w K mg base CX0 (k + 1) f fd ["lengths"] spSlotsOf := by
  refine F.ok scSlotsOf (fun vs H Q E h => ?_) (fun cdv A outer s H vs Q E hr h => ?_)
  · obtain ⟨_, _, _, a, ls, rfl, _⟩ := h
    rfl
  · obtain ⟨H0, T, L, a, ls, rfl, B, A, hl, hw, q⟩ := h
    refine ⟨_, (pss_cons (ps_set (i := 1) scSlotsOf.nd rfl (.inl rfl) (pe_lst pa_nil))
 (pss_cons (ps_set (i := 2) scSlotsOf.nd rfl (.inl rfl) pe_int)
 (pss_cons (ps_for PassesOwn.never rfl (pi_enum (by rfl) Tx.enum (pa_cons (pv 0) pa_nil)) (pg_tup (by rfl) (pgs_cons (pg_name (i := 3) scSlotsOf.nd rfl (Or.inl rfl)) (pgs_cons (pg_name (i := 4) scSlotsOf.nd rfl (Or.inl rfl)) pgs_nil)))
  (pss_one (ps_if (pt_cmpR op_gt (pv 4) pe_int (by rfl))
  (pss_cons (ps_expr (pe_bm PySem.F.plainAttrs_list PySem.F.slot_list_append PySem.F.type_list_append mt_append (pv 1) (pa_cons (pe_tup (pa_cons (pv 3) (pa_cons (pv 2) (pa_cons (pv 4) pa_nil)))) pa_nil)))
 (pss_one (ps_set (i := 2) scSlotsOf.nd rfl (.inl rfl) (pe_op op_mul (pv 2) (pe_op op_add (pv 4) pe_int))))) pss_nil)))
 (pss_one (ps_ret (pv 1)))))), ?_⟩
    repeat infer_instance
    refine s_newL B (Nat.zero_le _) fun sp H B => ?_
    repeat infer_instance
    refine s_itE (A _ B.tail) ?_
    refine s_forE (fun i σ M => (∃ y3 y4 : Option V, σ = [some (.ref a), some (.ref sp), some (.int ((wgtF 1 (ls.take i) : Nat) : Int)), y3, y4]) ∧ ∃ (ss : List Slot) (ts : List Addr), slotsF 0 1 ls = ss ++ slotsF i (wgtF 1 (ls.take i)) (ls.drop i) ∧ ts.length = ss.length ∧
      M = .ob sp (.lst (ts.map V.ref)) :: (slotC ss ts ++ L)) ((nis ls).map V.int) B ⟨⟨none, none, rfl⟩, [], [], rfl, rfl, rfl⟩ ?_ ?_ ?_
    · rintro i σ M H ⟨_, ss, ts, _, _, rfl⟩ B
      exact SqL.of (A _ (B.sub ((List.sublist_append_right ..).trans (List.sublist_cons_self ..))))
    · rintro i v σ M H hv ⟨⟨y3, y4, rfl⟩, ss, ts, es, tl, rfl⟩ B
      rw [List.getElem?_map, List.getElem?_map] at hv
      obtain ⟨x, hx, rfl⟩ := Option.map_eq_some_iff.mp hv
      obtain ⟨l, hx2, rfl⟩ := Option.map_eq_some_iff.mp hx
      have hil := (List.getElem?_eq_some_iff.mp hx2).1
      have w1 := wgtF_take ls 1 i
      have l1 := wgtF_mem ls 1 l Nat.one_pos (List.mem_of_getElem? hx2)
      have et : ls.take (i + 1) = ls.take i ++ [l] := by rw [List.take_add_one, hx2]; rfl
      have ed : ls.drop i = l :: ls.drop (i + 1) := by
        have := List.drop_eq_getElem_cons hil
        rw [this, (List.getElem?_eq_some_iff.mp hx2).2]
      rw [ed] at es
      have sl : ss.length ≤ 1000 := by
        have h1 := slots_len ls 0 1
        rw [es, List.length_append] at h1
        omega
      repeat infer_instance
      refine iteD (fun hp => ?_) (fun hp => ?_)
      · have e1 : slotsF i (wgtF 1 (ls.take i)) (l :: ls.drop (i + 1)) = (i, wgtF 1 (ls.take i), l) :: slotsF (i + 1) (wgtF 1 (ls.take (i + 1))) (ls.drop (i + 1)) := by
          rw [et, wgtF_snoc]
          exact if_pos (by omega)
        rw [e1] at es
        repeat infer_instance
        refine s_newT B (show 3 ≤ sizeLine from by decide) fun t H B => ?_
        repeat infer_instance
        refine s_append B (by rw [List.length_map]; unfold sizeLine; omega) fun H B => ?_
        repeat infer_instance
        have e : ((wgtF 1 (ls.take i) : Nat) : Int) * (((l : Nat) : Int) + 1) = ((wgtF 1 (ls.take (i + 1)) : Nat) : Int) := by rw [et, wgtF_snoc, Int.natCast_mul]; rfl
        have B2 : Own H0 H T (.ob sp (.lst ((ts ++ [t]).map V.ref)) :: (slotC (ss ++ [(i, wgtF 1 (ls.take i), l)]) (ts ++ [t]) ++ L)) := by
          rw [slotC_snoc tl.symm, List.map_append, List.append_assoc]
          exact B.perm (List.Perm.cons _ List.perm_middle.symm)
        refine s_inn B2 ⟨⟨some (.int ((i : Nat) : Int)), some (.int ((l : Nat) : Int)), ?_⟩, ss ++ [(i, wgtF 1 (ls.take i), l)], ts ++ [t], ?_, by rw [List.length_append, List.length_append, tl]; rfl, rfl⟩
        · rw [e]; rfl
        · rw [List.append_assoc]; exact es
      · have e0 : l = 0 := by omega
        subst e0
        have e1 : slotsF i (wgtF 1 (ls.take i)) (0 :: ls.drop (i + 1)) = slotsF (i + 1) (wgtF 1 (ls.take (i + 1))) (ls.drop (i + 1)) := by
          rw [et, wgtF_snoc, show wgtF 1 (ls.take i) * (0 + 1) = wgtF 1 (ls.take i) from Nat.mul_one _]
          exact if_neg (Nat.lt_irrefl 0)
        rw [e1] at es
        refine s_inn B ⟨⟨some (.int ((i : Nat) : Int)), some (.int ((0 : Nat) : Int)), ?_⟩, ss, ts, es, tl, rfl⟩
        rw [et, wgtF_snoc, show wgtF 1 (ls.take i) * (0 + 1) = wgtF 1 (ls.take i) from Nat.mul_one _]; rfl
    · rintro σ M H ⟨⟨y3, y4, rfl⟩, ss, ts, es, tl, rfl⟩ B
      rw [List.length_map, List.length_map, List.drop_length] at es
      have es : slotsF 0 1 ls = ss := by rw [es]; exact List.append_nil ss
      repeat infer_instance
      exact q sp ts H (by rw [es]; exact tl) (by rw [es]; exact B)
end
end My
namespace My
open PySem PySem.Spec PyProof.Rows L2 LamX
theorem cdiv_nat {r w : Nat} (h : 0 < w) (h2 : w ≤ 20000) : CDivW (r : Int) (w : Int) := cdivw (by omega) (by
  rw [Int.natAbs_natCast]
  by_cases z : w = 0
  · omega
  · exact Nat.lt_of_lt_of_le ((Nat.log2_lt z).mpr (show w < 2 ^ 15 by omega)) (by decide))
section
variable {P : Program} {w : World} {K : PySem.W.Frag} {mg : Str → Option Value} {base : Heap}
local macro_rules | `(tactic| infer_instance) => `(tactic| first
  | with_reducible refine s_var (by with_unfolding_all exact rfl) ?_
  | with_reducible apply s_C
  | with_reducible apply s_op
  | with_reducible apply s_i0
  | with_reducible apply s_seq
  | with_reducible apply s_asg
  | with_reducible apply s_gn
  | with_reducible apply s_nil
  | with_reducible apply s_cons
  | with_reducible apply s_cb
  | with_reducible apply s_call
  | with_reducible apply s_un
  | with_reducible apply s_u
  | with_reducible apply s_test
  | with_reducible apply s_blV
  | with_reducible apply s_eqI
  | with_reducible apply s_neI
  | with_reducible apply s_ifs
  | with_reducible apply s_drop
  | with_reducible apply s_ret
  | with_reducible apply s_lst
  | with_reducible apply s_tup
  | with_reducible apply s_and
  | with_reducible apply s_or
  | with_reducible apply s_not
  | with_reducible apply s_tB
  | with_reducible apply s_bm
  | with_reducible apply s_bm0
  | with_reducible apply s_for
  | with_reducible apply s_iList
  | with_reducible apply s_iTup
  | with_reducible apply s_mndS
  | with_reducible apply s_srtS
  | with_reducible apply s_lc2S
  | with_reducible apply s_remS
  | with_reducible apply s_iRng
  | with_reducible apply s_iEnum
  | with_reducible apply s_iRng3
  | with_reducible apply s_iZip
  | with_reducible apply s_iZip3
  | with_reducible apply s_iRev
  | with_reducible apply s_get2S
  | with_reducible apply s_iEZ
  | with_reducible apply s_sl
  | with_reducible apply s_noPart
  | with_reducible apply s_part
  | with_reducible apply s_partI
  | with_reducible apply s_neS
  | with_reducible apply s_eqS
  | with_reducible apply s_lc
  | with_reducible apply s_dc
  | with_reducible apply s_dg
  | with_reducible apply s_di
  | with_reducible apply s_dni
  | with_reducible apply s_yes
  | with_reducible apply s_chain
  | with_reducible refine s_aug (by with_unfolding_all exact rfl) ?_
  | with_reducible apply s_ip
  | with_reducible apply s_revL
  | with_reducible apply s_gsub
  | with_reducible apply s_gslc
  | with_reducible apply s_parS
  | with_reducible apply s_par
  | with_reducible apply s_gc
  | with_reducible apply s_gnil
  | with_reducible apply s_brk
  | with_reducible apply s_cnt
  | with_reducible apply s_next
  | with_reducible apply s_andV
  | with_reducible apply s_orV
  | with_reducible apply s_notV
  | with_reducible apply s_isB
  | with_reducible apply s_notB
  | with_reducible apply s_max2
  | with_reducible apply s_min2
  | with_reducible apply s_abs
  | with_reducible apply s_intB
  | (with_reducible refine s_len (by assumption) ?_)
  | (with_reducible refine s_lenF (by assumption) ?_)
  | (with_reducible refine s_ty (by assumption) ?_)
  | (with_reducible refine s_tyF (by assumption) ?_)
  | (with_reducible refine s_i (by first | decide | exact cpow_ok (by decide) (by decide) (by decide) | exact cdivw (by decide) (by decide) | exact cmul_l (by decide) (by decide) | exact cmul_r (by decide) (by decide) | omega | exact cmul_l (by omega) (by omega) | exact cmul_r (by omega) (by omega)) ?_))

def spFullRoom : Sp := fun vs H Q _ => ∃ (H0 : Hp) (T : List (Addr × Str)) (L : List Cell) (sp : Addr) (ts : List Addr) (ss : List Slot), vs = [.ref sp] ∧ Own H0 H T L ∧ (∀ H', Own H0 H' T L → SlAt H' sp ts ss) ∧ ss.length ≤ 1000 ∧ (∀ s ∈ ss, s.2.1 ≤ 20000 ∧ s.2.2 ≤ 20000) ∧ ∀ H', Own H0 H' T L → Q (.int ((fullF ss : Nat) : Int)) H'
set_option maxHeartbeats 0 in
theorem ok_FullRoom {f : Addr} {fd : FuncData} {k : Nat} (F : Fun K "full_room" "full_room" sFullRoom f fd) (Tx : Txt mg)  : FnOk P w K mg base CX0 (k + 1) f fd ["slots"] spFullRoom := by
  refine F.ok scFullRoom (fun vs H Q E h => ?_) (fun cdv A outer s H vs Q E hr h => ?_)
  · obtain ⟨_, _, _, sp, ts, ss, rfl, _⟩ := h
    rfl
  · obtain ⟨H0, T, L, sp, ts, ss, rfl, B, A, sl, hb, q⟩ := h
    refine ⟨_, (pss_one (ps_ret (pe_callB ((cr_sum (by rfl))) (by rfl) Tx.sum (by decide +kernel) (pa_cons (pe_lc (te := (tOp (rI CMul fun i j => .int (i * j)) (tVar 2) (tVar 3))) (tt := tYes) (own := [("index", 1), ("weight", 2), ("length", 3)]) (g := (gTup K 3 (gCons (gName 1) (gCons (gName 2) (gCons (gName 3) gNil))))) (by rfl) scFullRoom.nd (pi_list (pv 0)) (blkOk_by (own := [("index", 1), ("weight", 2), ("length", 3)]) (N := nFullRoom) (sc := defScope sFullRoom) (by decide +kernel)) (fun _ _ _ _ _ => (pg_tup (by rfl) (pgs_cons (pg_name (i := 1) scFullRoom.nd rfl (Or.inl rfl)) (pgs_cons (pg_name (i := 2) scFullRoom.nd rfl (Or.inl rfl)) (pgs_cons (pg_name (i := 3) scFullRoom.nd rfl (Or.inl rfl)) pgs_nil))))) (fun _ _ _ _ _ => pts_nil) (fun _ _ _ _ _ => (pe_op op_mul (pv 2) (pv 3)))) pa_nil)))), ?_⟩
    repeat infer_instance
    refine s_itH (A _ B).top ?_
    refine s_lc3T (fun i acc M => acc = ((ss.take i).map fun s => ((s.2.1 * s.2.2 : Nat) : Int)).map V.int ∧ M = L) (ts.map V.ref) B ⟨rfl, rfl⟩ ?_ ?_ ?_
    · rintro i acc M H ⟨_, rfl⟩ B
      exact SqL.of (A _ B).top
    · rintro D i x acc M H hx ⟨rfl, rfl⟩ B
      rw [List.getElem?_map] at hx
      obtain ⟨t, ht, rfl⟩ := Option.map_eq_some_iff.mp hx
      have til := (List.getElem?_eq_some_iff.mp ht).1
      have hlen := (A _ B.tail).len
      have hs : ss[i]? = some (ss[i]'(by omega)) := List.getElem?_eq_getElem _
      generalize ss[i]'(by omega) = s at hs
      obtain ⟨b1, b2⟩ := hb s (List.mem_of_getElem? hs)
      refine ⟨t, _, _, _, rfl, (A _ B.tail).tup i t s ht hs, rfl, ?_⟩
      repeat infer_instance
      refine iteT ?_
      repeat infer_instance
      refine s_el B (by rw [List.length_map, List.length_map, List.length_take]; unfold sizeLine; omega) ⟨?_, rfl⟩
      rw [List.take_add_one, hs, List.map_append, List.map_append]
      rfl
    rintro r acc M H ⟨rfl, rfl⟩ B
    rw [List.length_map, (A _ B.tail).len, List.take_length] at B
    repeat infer_instance
    refine ⟨r, _, rfl, SqL.of (B.get r), ?_⟩
    have e : (ss.map fun s => ((s.2.1 * s.2.2 : Nat) : Int)).sum = ((fullF ss : Nat) : Int) := by
      unfold fullF
      clear A B hb q sl
      induction ss with
      | nil => rfl
      | cons s ss ih => rw [List.map_cons, List.sum_cons, ih, List.map_cons, List.sum_cons, Int.natCast_add]
    rw [e]
    exact q H B.tail
def spRoomIn : Sp := fun vs H Q _ => ∃ (ρ : Nat) (t : Addr) (s : Slot), vs = [.int (ρ : Int), .ref t] ∧ H t = some (.tup [.int (s.1 : Int), .int (s.2.1 : Int), .int (s.2.2 : Int)]) ∧ 0 < s.2.1 ∧ s.2.1 ≤ 20000 ∧ s.2.2 ≤ 20000 ∧ Q (.int ((ρ / s.2.1 % (s.2.2 + 1) : Nat) : Int)) H
set_option maxHeartbeats 0 in
theorem ok_RoomIn {f : Addr} {fd : FuncData} {k : Nat} (F : Fun K "room_in" "room_in" sRoomIn f fd) (Tx : Txt mg)  : FnOk P w K mg base CX0 (k + 1) f fd ["room", "slot"] spRoomIn := by
  refine F.ok scRoomIn (fun vs H Q E h => ?_) (fun cdv A outer s H vs Q E hr h => ?_)
  · obtain ⟨ρ, t, s, rfl, _⟩ := h
    rfl
  · obtain ⟨ρ, t, s, rfl, ht, h0, h1, h2, q⟩ := h
    refine ⟨_, (pss_cons (ps_asg (pv 1) (pg_tup (by rfl) (pgs_cons (pg_name (i := 2) scRoomIn.nd rfl (Or.inl rfl)) (pgs_cons (pg_name (i := 3) scRoomIn.nd rfl (Or.inl rfl)) (pgs_cons (pg_name (i := 4) scRoomIn.nd rfl (Or.inl rfl)) pgs_nil)))))
 (pss_one (ps_ret (pe_op op_mod (pe_op op_fdivW (pv 0) (pv 3)) (pe_op op_add (pv 4) pe_int))))), ?_⟩
    repeat infer_instance
    refine s_gt3 ht rfl ?_
    repeat infer_instance
    refine s_i (cdiv_nat h0 h1) ?_
    repeat infer_instance
    have e : ((ρ : Nat) : Int) / ((s.2.1 : Nat) : Int) % (((s.2.2 : Nat) : Int) + 1) = ((ρ / s.2.1 % (s.2.2 + 1) : Nat) : Int) := by
      rw [Int.natCast_emod, Int.natCast_ediv]; rfl
    rw [e]
    exact q
end
end My
namespace My
open PySem PySem.Spec PyProof.Rows L2 LamX
def keyN (p : Key × V) : Nat := match p.1 with
  | .inl i => i.toNat
  | .inr _ => 0
def pairsP (ss : List Slot) (ρs : List Nat) : List (Nat × Slot) := ρs.flatMap fun ρ => ss.map fun sl => (ρ, sl)
theorem DTab.keyN {kvs : List (Key × V)} {f : Nat → Nat} (h : DTab kvs f) {p : Key × V} (hp : p ∈ kvs) : p.1 = .inl ((My.keyN p : Nat) : Int) ∧ f (My.keyN p) ≠ 0 ∧ p.2 = .int (f (My.keyN p) : Nat) := by
  obtain ⟨ρ, e1, e2, e3⟩ := h.at hp
  have e : My.keyN p = ρ := by unfold My.keyN; rw [e1]; exact Int.toNat_natCast ρ
  rw [e]
  exact ⟨e1, e2, e3⟩
theorem DTab.nats {kvs : List (Key × V)} {f : Nat → Nat} (h : DTab kvs f) : (kvs.map My.keyN).Nodup ∧ (∀ ρ, f ρ ≠ 0 → ρ ∈ kvs.map My.keyN) ∧ ∀ ρ ∈ kvs.map My.keyN, f ρ ≠ 0 := by
  refine ⟨?_, fun ρ hρ => ?_, fun ρ hρ => ?_⟩
  · have e : kvs.map (·.1) = (kvs.map My.keyN).map fun n : Nat => (Sum.inl (n : Int) : Key) := by
      rw [List.map_map]
      exact List.map_congr_left fun p hp => (h.keyN hp).1
    have nd := h.nd
    rw [e] at nd
    unfold List.Nodup at nd ⊢
    rw [List.pairwise_map] at nd
    exact nd.imp fun z w => z (by rw [w])
  · have hv := h.val ρ
    rw [if_neg hρ] at hv
    unfold valV at hv
    obtain ⟨p, hp, _⟩ := Option.map_eq_some_iff.mp hv
    have h1 := List.mem_of_find?_eq_some hp
    have h2 : p.1 = .inl (ρ : Int) := by simpa using List.find?_some hp
    have h3 := (h.keyN h1).1
    rw [h2] at h3
    have h4 : (ρ : Int) = ((My.keyN p : Nat) : Int) := Sum.inl.inj h3
    exact List.mem_map.mpr ⟨p, h1, by omega⟩
  · obtain ⟨p, hp, rfl⟩ := List.mem_map.mp hρ
    exact (h.keyN hp).2.1
theorem fromP_cap {cap s : Nat} {f : Nat → Nat} {ss : List Slot} (S : SlOk cap ss) (hf : ∀ ρ, f ρ ≠ 0 → ρ < cap) : ∀ {ps : List (Nat × Slot)}, (∀ p ∈ ps, p.2 ∈ ss) → ∀ ρ, fromP s f ps ρ ≠ 0 → ρ < cap
  | [], _, ρ, h => absurd rfl h
  | p :: ps, hp, ρ, h => by
    have e : fromP s f (p :: ps) ρ = (if okS s p.1 p.2 = true ∧ p.1 + s * p.2.2.1 = ρ then f p.1 else 0) + fromP s f ps ρ := by
      unfold fromP
      rw [List.map_cons, List.sum_cons]
    rw [e] at h
    by_cases c : okS s p.1 p.2 = true ∧ p.1 + s * p.2.2.1 = ρ
    · rw [if_pos c] at h
      by_cases z : f p.1 = 0
      · rw [z, Nat.zero_add] at h
        exact fromP_cap S hf (fun q hq => hp q (List.mem_cons_of_mem _ hq)) ρ h
      · have hm := hp p (List.mem_cons_self ..)
        obtain ⟨k, hk⟩ := S.div p.2 hm
        have := slot_cap (S.pos p.2 hm) hk (hf _ z) (of_decide_eq_true c.1)
        omega
    · rw [if_neg c, Nat.zero_add] at h
      exact fromP_cap S hf (fun q hq => hp q (List.mem_cons_of_mem _ hq)) ρ h
local macro_rules | `(tactic| infer_instance) => `(tactic| first
  | with_reducible refine s_var (by with_unfolding_all exact rfl) ?_
  | with_reducible apply s_C
  | with_reducible apply s_op
  | with_reducible apply s_i0
  | with_reducible apply s_seq
  | with_reducible apply s_asg
  | with_reducible apply s_gn
  | with_reducible apply s_nil
  | with_reducible apply s_cons
  | with_reducible apply s_cb
  | with_reducible apply s_call
  | with_reducible apply s_un
  | with_reducible apply s_u
  | with_reducible apply s_test
  | with_reducible apply s_blV
  | with_reducible apply s_eqI
  | with_reducible apply s_neI
  | with_reducible apply s_ifs
  | with_reducible apply s_drop
  | with_reducible apply s_ret
  | with_reducible apply s_lst
  | with_reducible apply s_tup
  | with_reducible apply s_and
  | with_reducible apply s_or
  | with_reducible apply s_not
  | with_reducible apply s_tB
  | with_reducible apply s_bm
  | with_reducible apply s_bm0
  | with_reducible apply s_for
  | with_reducible apply s_iList
  | with_reducible apply s_iTup
  | with_reducible apply s_mndS
  | with_reducible apply s_srtS
  | with_reducible apply s_lc2S
  | with_reducible apply s_remS
  | with_reducible apply s_iRng
  | with_reducible apply s_iEnum
  | with_reducible apply s_iRng3
  | with_reducible apply s_iZip
  | with_reducible apply s_iZip3
  | with_reducible apply s_iRev
  | with_reducible apply s_get2S
  | with_reducible apply s_iEZ
  | with_reducible apply s_sl
  | with_reducible apply s_noPart
  | with_reducible apply s_part
  | with_reducible apply s_partI
  | with_reducible apply s_neS
  | with_reducible apply s_eqS
  | with_reducible apply s_lc
  | with_reducible apply s_dc
  | with_reducible apply s_dg
  | with_reducible apply s_di
  | with_reducible apply s_dni
  | with_reducible apply s_yes
  | with_reducible apply s_chain
  | with_reducible refine s_aug (by with_unfolding_all exact rfl) ?_
  | with_reducible apply s_ip
  | with_reducible apply s_revL
  | with_reducible apply s_gsub
  | with_reducible apply s_gslc
  | with_reducible apply s_parS
  | with_reducible apply s_par
  | with_reducible apply s_gc
  | with_reducible apply s_gnil
  | with_reducible apply s_brk
  | with_reducible apply s_cnt
  | with_reducible apply s_next
  | with_reducible apply s_andV
  | with_reducible apply s_orV
  | with_reducible apply s_notV
  | with_reducible apply s_isB
  | with_reducible apply s_notB
  | with_reducible apply s_max2
  | with_reducible apply s_min2
  | with_reducible apply s_abs
  | with_reducible apply s_intB
  | (with_reducible refine s_len (by assumption) ?_)
  | (with_reducible refine s_lenF (by assumption) ?_)
  | (with_reducible refine s_ty (by assumption) ?_)
  | (with_reducible refine s_tyF (by assumption) ?_)
  | (with_reducible refine s_i (by first | decide | exact cpow_ok (by decide) (by decide) (by decide) | exact cdivw (by decide) (by decide) | exact cmul_l (by decide) (by decide) | exact cmul_r (by decide) (by decide) | omega | exact cmul_l (by omega) (by omega) | exact cmul_r (by omega) (by omega)) ?_))

abbrev nWaysBefore : List Str := ["ways", "size", "slots", "earlier", "room", "slot", "index", "weight", "length", "more"]
theorem scWaysBefore : FnScope nWaysBefore ["ways", "size", "slots"] (defScope sWaysBefore) := ⟨rfl, rfl, rfl, by decide +kernel, rfl, by decide +kernel, by decide +kernel⟩

section
variable {P : Program} {w : World} {K : PySem.W.Frag} {mg : Str → Option Value} {base : Heap}
def spWaysBefore : Sp := fun vs H Q _ => ∃ (H0 : Hp) (T : List (Addr × Str)) (L L1 : List Cell) (d sp : Addr) (kvs : List (Key × V)) (f : Nat → Nat) (ts : List Addr) (ss : List Slot) (cap s : Nat), vs = [.ref d, .int (s : Int), .ref sp] ∧ Own H0 H T L ∧ L.Perm (.ob d (.dK kvs) :: L1) ∧ DTab kvs f ∧ (∀ ρ, f ρ ≠ 0 → ρ < cap) ∧ SlOk cap ss ∧ cap ≤ 20000 ∧
  (∀ H', Own H0 H' T L1 → SlAt H' sp ts ss) ∧ (∀ s ∈ ss, s.2.1 ≤ 20000 ∧ s.2.2 ≤ 20000) ∧ s ≤ 20000 ∧ ∀ e kvs' H', DTab kvs' (stepF ss s f) → Own H0 H' T (.ob e (.dK kvs') :: L) → Q (.ref e) H'
set_option maxHeartbeats 0 in
theorem ok_WaysBefore {f : Addr} {fd : FuncData} {k : Nat} (F : Fun K "ways_before" "ways_before" sWaysBefore f fd) (Tx : Txt mg) (C_room_in : Cal P w K mg base k "room_in" ["room", "slot"] spRoomIn) : FnOk P w K mg base CX0 (k + 1) f fd ["ways", "size", "slots"] spWaysBefore := by
  refine F.ok scWaysBefore (fun vs H Q E h => ?_) (fun cdv A outer s H vs Q E hr h => ?_)
  · obtain ⟨_, _, _, _, d, sp, kvs, f, ts, ss, cap, s, rfl, _⟩ := h
    rfl
  · obtain ⟨H0, T, L, L1, d, sp, kvs, f, ts, ss, cap, sz, rfl, B, p1, tab, hf, S, hcap, A, hb, hs, q⟩ := h
    haveI : Pull L d (.ob d (.dK kvs)) L1 := ⟨p1⟩
    obtain ⟨nn, n1, n2⟩ := tab.nats
    have plain : ∀ j, ∀ p ∈ pairsP ss ((kvs.map keyN).take j), p.2 ∈ ss := fun j p hp => by
      obtain ⟨ρ, _, hp⟩ := List.mem_flatMap.mp hp
      obtain ⟨sl, hsl, rfl⟩ := List.mem_map.mp hp
      exact hsl
    refine ⟨_, (pss_cons (ps_set (i := 3) scWaysBefore.nd rfl (.inl rfl) pe_dnewK)
 (pss_cons (ps_lock (ps_for PassesOwn.never rfl (pi_keys (pv 0)) (pg_name (i := 4) scWaysBefore.nd rfl (Or.inl rfl))
  (pss_one (ps_for PassesOwn.never rfl (pi_list (pv 2)) (pg_name (i := 5) scWaysBefore.nd rfl (Or.inl rfl))
  (pss_cons (ps_asg (pv 5) (pg_tup (by rfl) (pgs_cons (pg_name (i := 6) scWaysBefore.nd rfl (Or.inl rfl)) (pgs_cons (pg_name (i := 7) scWaysBefore.nd rfl (Or.inl rfl)) (pgs_cons (pg_name (i := 8) scWaysBefore.nd rfl (Or.inl rfl)) pgs_nil)))))
 (pss_one (ps_if (pt_cmpR op_le (pe_op op_add (pe_cal C_room_in hr (by rfl) (pa_cons (pv 4) (pa_cons (pv 5) pa_nil))) (pv 1)) (pv 8) (by rfl))
  (pss_cons (ps_set (i := 9) scWaysBefore.nd rfl (.inl rfl) (pe_op op_add (pv 4) (pe_op op_mul (pv 1) (pv 7))))
 (pss_one (ps_asg (pe_op op_add (pe_dget2 (hu1_of hr) (pv 3) (pv 9) pe_int ⟨by rfl, by rfl, by rfl, by rfl⟩) (pe_dget (hu1_of hr) (pv 0) (pv 4) (fun _ _ => rfl))) (pg_sub (pv 3) (pv 9) (set_dict (hu1_of hr)))))) pss_nil)))))))
 (pss_one (ps_ret (pv 3))))), ?_⟩
    repeat infer_instance
    refine s_dnew B fun e H B => ?_
    repeat infer_instance
    refine s_forK (fun j σ M => (∃ y4 y5 y6 y7 y8 y9 : Option V, σ = [some (.ref d), some (.int (sz : Int)), some (.ref sp), some (.ref e), y4, y5, y6, y7, y8, y9]) ∧ ∃ ks, DTab ks (fromP sz f (pairsP ss ((kvs.map keyN).take j))) ∧ M = .ob e (.dK ks) :: L1) B d rfl ⟨⟨none, none, none, none, none, none, rfl⟩, [], ⟨(fun _ h => nomatch h), List.nodup_nil, fun ρ => rfl⟩, rfl⟩ ?_ ?_
    · rintro rt bk od j k v σ M H hkv ⟨⟨y4, y5, y6, y7, y8, y9, rfl⟩, ks, tk, rfl⟩ B
      have hm := List.mem_of_getElem? hkv
      obtain ⟨k1, k2, k3⟩ := tab.keyN hm
      have hn : (kvs.map keyN)[j]? = some (keyN (k, v)) := by rw [List.getElem?_map, hkv]; rfl
      have hvv := valV_at tab.nd hm
      have ent : pairsP ss ((kvs.map keyN).take (j + 1)) = pairsP ss ((kvs.map keyN).take j) ++ ss.map fun sl => (keyN (k, v), sl) := by
        unfold pairsP
        rw [List.take_add_one, hn, List.flatMap_append]; simp
      generalize keyN (k, v) = ρ at k1 k2 k3 ent
      have k1 : k = .inl (ρ : Int) := k1
      have k3 : v = .int (f ρ : Nat) := k3
      subst k1 k3
      have hvv : valV kvs (.inl (ρ : Int)) = some (.int ((f ρ : Nat) : Int)) := hvv
      have ρcap := hf ρ k2
      repeat infer_instance
      have SA0 := (A _ (B.sub ((List.sublist_cons_self ..).trans (List.sublist_cons_self ..)))).len
      refine s_itH (A _ (B.sub ((List.sublist_cons_self ..).trans (List.sublist_cons_self ..)))).top ?_
      refine s_forL (fun i σ M => (∃ y5 y6 y7 y8 y9 : Option V, σ = [some (.ref d), some (.int (sz : Int)), some (.ref sp), some (.ref e), some (.int (ρ : Int)), y5, y6, y7, y8, y9]) ∧ ∃ ks, DTab ks (fromP sz f (pairsP ss ((kvs.map keyN).take j) ++ (ss.take i).map fun sl => (ρ, sl))) ∧ M = .ob d (.frz od (.dK kvs)) :: .ob e (.dK ks) :: L1) (ts.map V.ref) B ⟨⟨_, _, _, _, _, rfl⟩, ks, by rw [List.take_zero, List.map_nil, List.append_nil]; exact tk, rfl⟩ ?_ ?_ ?_
      · rintro i σ M H ⟨_, ks, tk, rfl⟩ B
        exact SqL.of (A _ (B.sub ((List.sublist_cons_self ..).trans (List.sublist_cons_self ..)))).top
      · rintro i x σ M H hx ⟨⟨y5, y6, y7, y8, y9, rfl⟩, ks, tk, rfl⟩ B
        rw [List.getElem?_map] at hx
        obtain ⟨t, ht, rfl⟩ := Option.map_eq_some_iff.mp hx
        have til := (List.getElem?_eq_some_iff.mp ht).1
        have SA := A _ (B.sub ((List.sublist_cons_self ..).trans (List.sublist_cons_self ..)))
        have hlen := SA.len
        have hs : ss[i]? = some (ss[i]'(by omega)) := List.getElem?_eq_getElem _
        generalize ss[i]'(by omega) = sl at hs
        have hsm := List.mem_of_getElem? hs
        obtain ⟨b1, b2⟩ := hb sl hsm
        have ent2 : (ss.take (i + 1)).map (fun sl => (ρ, sl)) = (ss.take i).map (fun sl => (ρ, sl)) ++ [(ρ, sl)] := by
          rw [List.take_add_one, hs, List.map_append]; rfl
        have ht3 := SA.tup i t sl ht hs
        repeat infer_instance
        refine s_gt3 ht3 rfl ?_
        repeat infer_instance
        refine ⟨ρ, t, sl, rfl, ht3, S.pos sl hsm, b1, b2, ?_⟩
        repeat infer_instance
        refine iteD (fun le => ?_) (fun gt => ?_)
        · have ok : okS sz ρ sl = true := decide_eq_true (by omega)
          have szl : sz ≤ sl.2.2 := by omega
          repeat infer_instance
          refine s_get2T (B.get e) ?_
          repeat infer_instance
          refine s_get2 (B.get e) ?_
          repeat infer_instance
          have em : (ρ : Int) + (sz : Int) * (sl.2.1 : Int) = ((ρ + sz * sl.2.1 : Nat) : Int) := by rw [Int.natCast_add, Int.natCast_mul]
          rw [em, tk.getD]
          refine s_dgetF (B.get d) hvv ?_
          repeat infer_instance
          have kl := tk.len (fromP_cap S hf (fun p hp => (List.mem_append.mp hp).elim (plain j p) fun h => by
            obtain ⟨s', h', rfl⟩ := List.mem_map.mp h
            exact List.mem_of_mem_take h'))
          refine s_setD B (show ks.length < sizeLine by unfold sizeLine; omega) fun H B => ?_
          have tk2 := tk.put (ρ + sz * sl.2.1) (f ρ) k2
          rw [← Int.natCast_add] at B
          generalize putK ks (Sum.inl ((ρ + sz * sl.2.1 : Nat) : Int)) _ = ks2 at B tk2
          refine s_inn B ⟨⟨_, _, _, _, _, rfl⟩, ks2, ?_, rfl⟩
          rw [ent2, ← List.append_assoc, fromP_snoc]
          have ef : (fun x => fromP sz f (pairsP ss ((kvs.map keyN).take j) ++ (ss.take i).map fun sl => (ρ, sl)) x + if x = ρ + sz * sl.2.1 then f ρ else 0) = fun x => fromP sz f (pairsP ss ((kvs.map keyN).take j) ++ (ss.take i).map fun sl => (ρ, sl)) x + if okS sz ρ sl = true ∧ ρ + sz * sl.2.1 = x then f ρ else 0 := by
            funext x
            by_cases z : x = ρ + sz * sl.2.1
            · rw [if_pos z, if_pos ⟨ok, z.symm⟩]
            · rw [if_neg z, if_neg fun y => z y.2.symm]
          rw [ef] at tk2
          exact tk2
        · have ok : okS sz ρ sl ≠ true := fun z => gt (by have := of_decide_eq_true z; omega)
          refine s_inn B ⟨⟨_, _, _, _, _, rfl⟩, ks, ?_, rfl⟩
          rw [ent2, ← List.append_assoc, fromP_snoc]
          have ef : (fun x => fromP sz f (pairsP ss ((kvs.map keyN).take j) ++ (ss.take i).map fun sl => (ρ, sl)) x + if okS sz ρ sl = true ∧ ρ + sz * sl.2.1 = x then f ρ else 0) = fromP sz f (pairsP ss ((kvs.map keyN).take j) ++ (ss.take i).map fun sl => (ρ, sl)) := by
            funext x
            rw [if_neg fun y => ok y.1, Nat.add_zero]
          show DTab ks (fun x => _)
          rw [ef]
          exact tk
      · rintro σ M H ⟨⟨y5, y6, y7, y8, y9, rfl⟩, ks, tk, rfl⟩ B
        rw [List.length_map, SA0, List.take_length, ← ent] at tk
        repeat infer_instance
        exact s_inn B ⟨_, rfl, ⟨_, _, _, _, _, _, rfl⟩, ks, tk, rfl⟩
    · rintro σ M H ⟨⟨y4, y5, y6, y7, y8, y9, rfl⟩, ks, tk, rfl⟩ B
      have eK : (kvs.map keyN).take kvs.length = kvs.map keyN := List.take_of_length_le (by rw [List.length_map]; exact Nat.le_refl _)
      rw [eK] at tk
      have ef : fromP sz f (pairsP ss (kvs.map keyN)) = stepF ss sz f := funext fun x => fromP_all nn n1 n2 ss x
      rw [ef] at tk
      repeat infer_instance
      exact q e ks H tk ((B.perm (List.Perm.swap ..)).perm (List.Perm.cons _ p1.symm))
end
end My
namespace My
open PySem PySem.Spec PyProof.Rows L2 LamX
abbrev DRow := Addr × List (Key × V)
def dcs (rs : List DRow) : List Cell := rs.map fun r => .ob r.1 (.dK r.2)
def drf (rs : List DRow) : List V := rs.map fun r => V.ref r.1
theorem dcs_perm {rs : List DRow} {i : Nat} {r : DRow} (h : rs[i]? = some r) : ∃ N, (dcs rs).Perm (.ob r.1 (.dK r.2) :: N) := by
  have hm : Cell.ob r.1 (.dK r.2) ∈ dcs rs := List.mem_map.mpr ⟨r, List.mem_of_getElem? h, rfl⟩
  obtain ⟨s, t, e⟩ := List.append_of_mem hm
  exact ⟨s ++ t, by rw [e]; exact List.perm_middle⟩
local macro_rules | `(tactic| infer_instance) => `(tactic| first
  | with_reducible refine s_var (by with_unfolding_all exact rfl) ?_
  | with_reducible apply s_C
  | with_reducible apply s_op
  | with_reducible apply s_i0
  | with_reducible apply s_seq
  | with_reducible apply s_asg
  | with_reducible apply s_gn
  | with_reducible apply s_nil
  | with_reducible apply s_cons
  | with_reducible apply s_cb
  | with_reducible apply s_call
  | with_reducible apply s_un
  | with_reducible apply s_u
  | with_reducible apply s_test
  | with_reducible apply s_blV
  | with_reducible apply s_eqI
  | with_reducible apply s_neI
  | with_reducible apply s_ifs
  | with_reducible apply s_drop
  | with_reducible apply s_ret
  | with_reducible apply s_lst
  | with_reducible apply s_tup
  | with_reducible apply s_and
  | with_reducible apply s_or
  | with_reducible apply s_not
  | with_reducible apply s_tB
  | with_reducible apply s_bm
  | with_reducible apply s_bm0
  | with_reducible apply s_for
  | with_reducible apply s_iList
  | with_reducible apply s_iTup
  | with_reducible apply s_mndS
  | with_reducible apply s_srtS
  | with_reducible apply s_lc2S
  | with_reducible apply s_remS
  | with_reducible apply s_iRng
  | with_reducible apply s_iEnum
  | with_reducible apply s_iRng3
  | with_reducible apply s_iZip
  | with_reducible apply s_iZip3
  | with_reducible apply s_iRev
  | with_reducible apply s_get2S
  | with_reducible apply s_iEZ
  | with_reducible apply s_sl
  | with_reducible apply s_noPart
  | with_reducible apply s_part
  | with_reducible apply s_partI
  | with_reducible apply s_neS
  | with_reducible apply s_eqS
  | with_reducible apply s_lc
  | with_reducible apply s_dc
  | with_reducible apply s_dg
  | with_reducible apply s_di
  | with_reducible apply s_dni
  | with_reducible apply s_yes
  | with_reducible apply s_chain
  | with_reducible refine s_aug (by with_unfolding_all exact rfl) ?_
  | with_reducible apply s_ip
  | with_reducible apply s_revL
  | with_reducible apply s_gsub
  | with_reducible apply s_gslc
  | with_reducible apply s_parS
  | with_reducible apply s_par
  | with_reducible apply s_gc
  | with_reducible apply s_gnil
  | with_reducible apply s_brk
  | with_reducible apply s_cnt
  | with_reducible apply s_next
  | with_reducible apply s_andV
  | with_reducible apply s_orV
  | with_reducible apply s_notV
  | with_reducible apply s_isB
  | with_reducible apply s_notB
  | with_reducible apply s_max2
  | with_reducible apply s_min2
  | with_reducible apply s_abs
  | with_reducible apply s_intB
  | (with_reducible refine s_len (by assumption) ?_)
  | (with_reducible refine s_lenF (by assumption) ?_)
  | (with_reducible refine s_ty (by assumption) ?_)
  | (with_reducible refine s_tyF (by assumption) ?_)
  | (with_reducible refine s_i (by first | decide | exact cpow_ok (by decide) (by decide) (by decide) | exact cdivw (by decide) (by decide) | exact cmul_l (by decide) (by decide) | exact cmul_r (by decide) (by decide) | omega | exact cmul_l (by omega) (by omega) | exact cmul_r (by omega) (by omega)) ?_))

abbrev nWaysOf : List Str := ["blocks", "slots", "tables", "block"]
theorem scWaysOf : FnScope nWaysOf ["blocks", "slots"] (defScope sWaysOf) := ⟨rfl, rfl, rfl, by decide +kernel, rfl, by decide +kernel, by decide +kernel⟩

section
variable {P : Program} {w : World} {K : PySem.W.Frag} {mg : Str → Option Value} {base : Heap}
abbrev szs (bs : List (List Int)) : List Nat := bs.map List.length
def spWaysOf : Sp := fun vs H Q _ => ∃ (H0 : Hp) (T : List (Addr × Str)) (L L' : List Cell) (p sp : Addr) (qs : List Addr) (bs : List (List Int)) (ts : List Addr) (ss : List Slot) (cap : Nat), vs = [.ref p, .ref sp] ∧ Own H0 H T L ∧ Pull L p (.fm p qs (vv bs)) L' ∧
  (∀ H', Own H0 H' T L → SlAt H' sp ts ss) ∧ SlOk cap ss ∧ 0 < cap ∧ cap ≤ 20000 ∧ (∀ s ∈ ss, s.2.1 ≤ 20000 ∧ s.2.2 ≤ 20000) ∧ bs.length ≤ 1000 ∧ (∀ b ∈ bs, b.length ≤ 20000) ∧
  ∀ o rs H', rs.length = bs.length + 1 → (∀ i r, rs[i]? = some r → DTab r.2 (waysF ss ((szs bs).drop i))) → Own H0 H' T (.ob o (.lst (drf rs)) :: (dcs rs ++ L)) → Q (.ref o) H'
set_option maxHeartbeats 0 in
theorem ok_WaysOf {f : Addr} {fd : FuncData} {k : Nat} (F : Fun K "ways_of" "ways_of" sWaysOf f fd) (Tx : Txt mg) (C_ways_before : Cal P w K mg base k "ways_before" ["ways", "size", "slots"] spWaysBefore) : FnOk P w K mg base CX0 (k + 1) f fd ["blocks", "slots"] spWaysOf := by
  refine F.ok scWaysOf (fun vs H Q E h => ?_) (fun cdv A outer s H vs Q E hr h => ?_)
  · obtain ⟨_, _, _, _, p, sp, qs, bs, ts, ss, cap, rfl, _⟩ := h
    rfl
  · obtain ⟨H0, T, L, L', p, sp, qs, bs, ts, ss, cap, rfl, B, P1, A, S, h0, hcap, hb, hn, hs, q⟩ := h
    refine ⟨_, (pss_cons (ps_set (i := 2) scWaysOf.nd rfl (.inl rfl) (pe_lst (pa_cons (pe_disp (pps_cons pe_int pe_int pps_nil) (by rfl) (by rfl) (List.cons_ne_nil _ _) (by decide)) pa_nil)))
 (pss_cons (ps_for PassesOwn.never rfl (RT.pi_revA (by rfl) Tx.reversed (pv 0)) (pg_name (i := 3) scWaysOf.nd rfl (Or.inl rfl))
  (pss_one (ps_expr (pe_bm PySem.F.plainAttrs_list PySem.F.slot_list_append PySem.F.type_list_append mt_append (pv 2) (pa_cons (pe_cal C_ways_before hr (by rfl) (pa_cons (pe_ix ix_list (pv 2) (pe_un un_neg pe_int) (fun _ _ => rfl)) (pa_cons (pe_callB (cl_len) (by rfl) Tx.len (by decide +kernel) (pa_cons (pv 3) pa_nil)) (pa_cons (pv 1) pa_nil)))) pa_nil)))))
 (pss_one (ps_ret (pe_revL (pv 2)))))), ?_⟩
    have hlb := B.lenF p
    repeat infer_instance
    refine s_disp1 B fun e H B => ?_
    repeat infer_instance
    refine s_disp B fun H B => ?_
    repeat infer_instance
    refine s_newL B (by show (1:Nat) ≤ _; decide) fun o H B => ?_
    repeat infer_instance
    refine s_itRev (B.getF p) ?_
    refine s_forV (fun j σ M => (∃ y3 : Option V, σ = [some (.ref p), some (.ref sp), some (.ref o), y3]) ∧ ∃ rs : List DRow, rs.length = j + 1 ∧ (∀ i r, rs[i]? = some r → DTab r.2 (waysF ss ((szs bs).drop (bs.length - i)))) ∧ M = .ob o (.lst (drf rs)) :: (dcs rs ++ L)) (qs.map V.ref) B ⟨⟨_, rfl⟩, [(e, [(Sum.inl 0, V.int 1)])], rfl, ?_, rfl⟩ ?_ ?_ ?_
    · intro i r hr
      have hi := (List.getElem?_eq_some_iff.mp hr).1
      have hi0 : i = 0 := by simpa using hi
      subst hi0
      cases Option.some.inj hr
      rw [Nat.sub_zero, List.drop_of_length_le (by rw [List.length_map]; exact Nat.le_refl _)]
      refine ⟨fun p hp => ⟨0, by rw [List.mem_singleton.mp hp]; rfl⟩, by simp, fun ρ => ?_⟩
      show _ = if (if ρ = 0 then 1 else 0) = 0 then none else some (V.int ((if ρ = 0 then 1 else 0 : Nat) : Int))
      by_cases z : ρ = 0
      · subst z
        rfl
      · have e0 : (if ρ = 0 then 1 else 0 : Nat) = 0 := if_neg z
        simp only [e0]
        exact valV_neg fun y => z (by have := Sum.inl.inj y; omega)
    · rintro i σ M H ⟨_, rs, _, _, rfl⟩ B
      exact SqL.of ((B.sub ((List.sublist_append_right ..).trans (List.sublist_cons_self ..))).getF p)
    · rintro j x σ M H hj hx ⟨⟨y3, rfl⟩, rs, hr1, hr2, rfl⟩ B
      have C := B.sub ((List.sublist_append_right ..).trans (List.sublist_cons_self ..))
      rw [List.length_map] at hj
      rw [List.length_map, List.getElem?_map] at hx
      obtain ⟨qq, hq, rfl⟩ := Option.map_eq_some_iff.mp hx
      obtain ⟨b, hb1, hrow⟩ := C.rowOf p hq
      have hbl := hs b (List.mem_of_getElem? hb1)
      obtain ⟨rs0, ⟨d, kvs⟩, rfl⟩ : ∃ rs0 r, rs = rs0 ++ [r] := ⟨rs.dropLast, rs.getLast (by intro z; rw [z] at hr1; cases hr1), (List.dropLast_concat_getLast _).symm⟩
      have hr0 : rs0.length = j := by rw [List.length_append] at hr1; simpa using hr1
      have tab : DTab kvs (waysF ss ((szs bs).drop (bs.length - j))) := hr2 j (d, kvs) (by rw [← hr0]; simp)
      have ed : drf (rs0 ++ [(d, kvs)]) = (rs0.map (·.1) ++ [d]).map V.ref := by unfold drf; simp
      repeat infer_instance
      refine s_ix B (v := .ref d) (by rw [ed]; exact atI_last1) ?_
      repeat infer_instance
      refine s_lenH hrow ?_
      rw [List.length_map]
      repeat infer_instance
      have dsn : ∀ (R : List DRow) (r : DRow), dcs (R ++ [r]) = dcs R ++ [.ob r.1 (.dK r.2)] := fun R r => by unfold dcs; rw [List.map_append]; rfl
      refine ⟨H0, T, _, .ob o (.lst (drf (rs0 ++ [(d, kvs)]))) :: (dcs rs0 ++ L), d, sp, kvs, _, ts, ss, cap, b.length, rfl, B, ?_, tab, waysF_cap S h0 _, S, hcap, fun H' C => A H' (C.sub ((List.sublist_append_right ..).trans (List.sublist_cons_self ..))), hb, hbl, fun e2 kvs2 H tab2 B => ?_⟩
      · rw [dsn]
        refine (List.Perm.cons _ ?_).trans (List.Perm.swap ..)
        rw [List.append_assoc]
        exact List.perm_middle
      repeat infer_instance
      refine s_append B (by rw [ed, List.length_map, List.length_append, List.length_map]; unfold sizeLine; show rs0.length + 1 < _; omega) fun H B => ?_
      have e3 : drf (rs0 ++ [(d, kvs)]) ++ [V.ref e2] = drf (rs0 ++ [(d, kvs)] ++ [(e2, kvs2)]) := by unfold drf; rw [List.map_append (l₂ := [(e2, kvs2)])]; rfl
      rw [e3] at B
      have B2 : Own H0 H T (.ob o (.lst (drf (rs0 ++ [(d, kvs)] ++ [(e2, kvs2)]))) :: (dcs (rs0 ++ [(d, kvs)] ++ [(e2, kvs2)]) ++ L)) := B.perm (List.Perm.cons _ (by
        rw [dsn (rs0 ++ [(d, kvs)]), List.append_assoc]
        exact List.perm_middle.symm))
      refine s_inn B2 ⟨⟨_, rfl⟩, rs0 ++ [(d, kvs)] ++ [(e2, kvs2)], by rw [List.length_append, hr1]; rfl, ?_, rfl⟩
      intro i r hr
      by_cases hi : i < (rs0 ++ [(d, kvs)]).length
      · rw [List.getElem?_append_left hi] at hr
        exact hr2 i r hr
      · have hi2 := (List.getElem?_eq_some_iff.mp hr).1
        have hi3 : i = j + 1 := by rw [List.length_append, hr1] at hi2; rw [hr1] at hi; simp at hi2; omega
        subst hi3
        rw [List.getElem?_append_right (by omega), hr1, Nat.sub_self] at hr
        cases Option.some.inj hr
        have hjb : j < bs.length := by omega
        have e4 : (szs bs).drop (bs.length - (j + 1)) = b.length :: (szs bs).drop (bs.length - j) := by
          have hb2 : bs[bs.length - 1 - j]? = some b := by rw [hlb] at hb1; exact hb1
          have hb3 : (szs bs)[bs.length - (j + 1)]? = some b.length := by
            rw [List.getElem?_map, show bs.length - (j + 1) = bs.length - 1 - j by omega, hb2]; rfl
          obtain ⟨hl4, hb4⟩ := List.getElem?_eq_some_iff.mp hb3
          rw [List.drop_eq_getElem_cons hl4, hb4, show bs.length - (j + 1) + 1 = bs.length - j by omega]
        rw [e4]
        exact tab2
    · rintro σ M H ⟨⟨y3, rfl⟩, rs, hr1, hr2, rfl⟩ B
      repeat infer_instance
      refine s_rev B fun r H B => ?_
      rw [List.length_map, hlb] at hr1
      have e5 : (drf rs).reverse = drf rs.reverse := by unfold drf; rw [List.map_reverse]
      rw [e5] at B
      refine q r rs.reverse H (by rw [List.length_reverse, hr1]) (fun i x hx => ?_) (Own.tail (c := .ob o (.lst (drf rs))) (B.perm ?_))
      · have hi := (List.getElem?_eq_some_iff.mp hx).1
        rw [List.length_reverse] at hi
        rw [List.getElem?_reverse hi] at hx
        have h1 := hr2 _ x hx
        rw [hr1, show bs.length - (bs.length + 1 - 1 - i) = i by omega] at h1
        exact h1
      · refine (List.Perm.swap ..).trans (List.Perm.cons _ (List.Perm.cons _ (List.Perm.append_right L ?_)))
        unfold dcs
        rw [List.map_reverse]
        exact (List.reverse_perm _).symm
end
end My
namespace My
open PySem PySem.Spec PyProof.Rows L2 LamX
/-- how many families have this result and these lengths -/
def cntF (ns : List Int) (ls : List Nat) : Nat := waysF (slotsF 0 1 ls) (szs (cut ns)) (fullF (slotsF 0 1 ls))
theorem wgt_pos : ∀ (ls : List Nat) {w : Nat}, 0 < w → 0 < wgtF w ls
  | [], w, h => h
  | l :: ls, w, h => wgt_pos ls (w := w * (l + 1)) (Nat.mul_pos h (Nat.succ_pos l))
theorem slot_small {cap : Nat} {ss : List Slot} (S : SlOk cap ss) (h0 : 0 < cap) (hc : cap ≤ 20000) : ∀ s ∈ ss, s.2.1 ≤ 20000 ∧ s.2.2 ≤ 20000 := fun s hs => by
  obtain ⟨c, e⟩ := S.div s hs
  have p := S.pos s hs
  have hc0 : 0 < c := Nat.pos_of_ne_zero fun z => by rw [z, Nat.mul_zero] at e; omega
  have h1 : s.2.1 * (s.2.2 + 1) ≤ cap := by rw [e]; exact Nat.le_mul_of_pos_right _ hc0
  have h2 : s.2.1 ≤ s.2.1 * (s.2.2 + 1) := Nat.le_mul_of_pos_right _ (Nat.succ_pos _)
  have h3 : s.2.2 + 1 ≤ s.2.1 * (s.2.2 + 1) := Nat.le_mul_of_pos_left _ p
  omega
theorem slotC_other {ss : List Slot} {ts : List Addr} {L : List Cell} : (slotC ss ts).Sublist (slotC ss ts ++ L) := List.sublist_append_left ..
local macro_rules | `(tactic| infer_instance) => `(tactic| first
  | with_reducible refine s_var (by with_unfolding_all exact rfl) ?_
  | with_reducible apply s_C
  | with_reducible apply s_op
  | with_reducible apply s_i0
  | with_reducible apply s_seq
  | with_reducible apply s_asg
  | with_reducible apply s_gn
  | with_reducible apply s_nil
  | with_reducible apply s_cons
  | with_reducible apply s_cb
  | with_reducible apply s_call
  | with_reducible apply s_un
  | with_reducible apply s_u
  | with_reducible apply s_test
  | with_reducible apply s_blV
  | with_reducible apply s_eqI
  | with_reducible apply s_neI
  | with_reducible apply s_ifs
  | with_reducible apply s_drop
  | with_reducible apply s_ret
  | with_reducible apply s_lst
  | with_reducible apply s_tup
  | with_reducible apply s_and
  | with_reducible apply s_or
  | with_reducible apply s_not
  | with_reducible apply s_tB
  | with_reducible apply s_bm
  | with_reducible apply s_bm0
  | with_reducible apply s_for
  | with_reducible apply s_iList
  | with_reducible apply s_iTup
  | with_reducible apply s_mndS
  | with_reducible apply s_srtS
  | with_reducible apply s_lc2S
  | with_reducible apply s_remS
  | with_reducible apply s_iRng
  | with_reducible apply s_iEnum
  | with_reducible apply s_iRng3
  | with_reducible apply s_iZip
  | with_reducible apply s_iZip3
  | with_reducible apply s_iRev
  | with_reducible apply s_get2S
  | with_reducible apply s_iEZ
  | with_reducible apply s_sl
  | with_reducible apply s_noPart
  | with_reducible apply s_part
  | with_reducible apply s_partI
  | with_reducible apply s_neS
  | with_reducible apply s_eqS
  | with_reducible apply s_lc
  | with_reducible apply s_dc
  | with_reducible apply s_dg
  | with_reducible apply s_di
  | with_reducible apply s_dni
  | with_reducible apply s_yes
  | with_reducible apply s_chain
  | with_reducible refine s_aug (by with_unfolding_all exact rfl) ?_
  | with_reducible apply s_ip
  | with_reducible apply s_revL
  | with_reducible apply s_gsub
  | with_reducible apply s_gslc
  | with_reducible apply s_parS
  | with_reducible apply s_par
  | with_reducible apply s_gc
  | with_reducible apply s_gnil
  | with_reducible apply s_brk
  | with_reducible apply s_cnt
  | with_reducible apply s_next
  | with_reducible apply s_andV
  | with_reducible apply s_orV
  | with_reducible apply s_notV
  | with_reducible apply s_isB
  | with_reducible apply s_notB
  | with_reducible apply s_max2
  | with_reducible apply s_min2
  | with_reducible apply s_abs
  | with_reducible apply s_intB
  | (with_reducible refine s_len (by assumption) ?_)
  | (with_reducible refine s_lenF (by assumption) ?_)
  | (with_reducible refine s_ty (by assumption) ?_)
  | (with_reducible refine s_tyF (by assumption) ?_)
  | (with_reducible refine s_i (by first | decide | exact cpow_ok (by decide) (by decide) (by decide) | exact cdivw (by decide) (by decide) | exact cmul_l (by decide) (by decide) | exact cmul_r (by decide) (by decide) | omega | exact cmul_l (by omega) (by omega) | exact cmul_r (by omega) (by omega)) ?_))

abbrev nCountWithLengths : List Str := ["result", "lengths", "slots"]
theorem scCountWithLengths : FnScope nCountWithLengths ["result", "lengths"] (defScope sCountWithLengths) := ⟨rfl, rfl, rfl, by decide +kernel, rfl, by decide +kernel, by decide +kernel⟩

section
variable {P : Program} {w : World} {K : PySem.W.Frag} {mg : Str → Option Value} {base : Heap}
def spCountWithLengths : Sp := fun vs H Q _ => ∃ (H0 : Hp) (T : List (Addr × Str)) (L L1 L2 : List Cell) (a al : Addr) (ns : List Int) (ls : List Nat), vs = [.ref a, .ref al] ∧ Own H0 H T L ∧ L.Perm (.ob a (.lst (ns.map V.int)) :: L1) ∧ L.Perm (.ob al (.lst ((nis ls).map V.int)) :: L2) ∧ ns.Nodup ∧ ns.length ≤ 1000 ∧ ls ≠ [] ∧ ls.length ≤ 1000 ∧ wgtF 1 ls ≤ 20000 ∧
  ∀ H', Own H0 H' T L → Q (.int ((cntF ns ls : Nat) : Int)) H'
set_option maxHeartbeats 0 in
theorem ok_CountWithLengths {f : Addr} {fd : FuncData} {k : Nat} (F : Fun K "count_with_lengths" "count_with_lengths" sCountWithLengths f fd) (Tx : Txt mg) (C_require_numbers : Cal P w K mg base k "require_numbers" ["value"] spReq) (C_split_blocks : Cal P w K mg base k "split_blocks" ["numbers"] spSplit) (C_require_lengths : Cal P w K mg base k "require_lengths" ["value"] spRequireLengths) (C_slots_of : Cal P w K mg base k "slots_of" ["lengths"] spSlotsOf) (C_full_room : Cal P w K mg base k "full_room" ["slots"] spFullRoom) (C_ways_of : Cal P w K mg base k "ways_of" ["blocks", "slots"] spWaysOf) : FnOk P w K mg base CX0 (k + 1) f fd ["result", "lengths"] spCountWithLengths := by
  refine F.ok scCountWithLengths (fun vs H Q E h => ?_) (fun cdv A outer s H vs Q E hr h => ?_)
  · obtain ⟨_, _, _, _, _, a, al, ns, ls, rfl, _⟩ := h
    rfl
  · obtain ⟨H0, T, L, L1, L2, a, al, ns, ls, rfl, B, p1, p2, nd, hn, hl0, hl, hw, q⟩ := h
    haveI : Pull L a (.ob a (.lst (ns.map V.int))) L1 := ⟨p1⟩
    have AL : ∀ H', Own H0 H' T L → H' al = some (.lst ((nis ls).map V.int)) := fun H' B => by
      haveI : Pull L al (.ob al (.lst ((nis ls).map V.int))) L2 := ⟨p2⟩
      exact B.get al
    have AA : ∀ H', Own H0 H' T L → H' a = some (.lst (ns.map V.int)) := fun H' B => B.get a
    refine ⟨_, (pss_cons (ps_expr (pe_cal C_require_numbers hr (by rfl) (pa_cons (pv 0) pa_nil)))
 (pss_cons (ps_expr (pe_cal C_require_lengths hr (by rfl) (pa_cons (pv 1) pa_nil)))
 (pss_cons (ps_set (i := 2) scCountWithLengths.nd rfl (.inl rfl) (pe_cal C_slots_of hr (by rfl) (pa_cons (pv 1) pa_nil)))
 (pss_one (ps_ret (pe_dget2 (hu1_of hr) (pe_ix ix_list (pe_cal C_ways_of hr (by rfl) (pa_cons (pe_cal C_split_blocks hr (by rfl) (pa_cons (pv 0) pa_nil)) (pa_cons (pv 2) pa_nil))) pe_int (fun _ _ => rfl)) (pe_cal C_full_room hr (by rfl) (pa_cons (pv 2) pa_nil)) pe_int ⟨by rfl, by rfl, by rfl, by rfl⟩)))))), ?_⟩
    repeat infer_instance
    refine u_req B (B.get a) nd (by omega) fun H B _ => ?_
    repeat infer_instance
    refine ⟨H0, T, L, al, ls, rfl, B, AL, hl0, hl, hw, fun H B => ?_⟩
    repeat infer_instance
    refine ⟨H0, T, L, al, ls, rfl, B, AL, hl, hw, fun sp ts H tl B => ?_⟩
    have S := slots_ok ls 0 1 Nat.one_pos
    have h0 := wgt_pos ls Nat.one_pos
    have hb := slot_small S h0 hw
    have hsl := slots_len ls 0 1
    have hs2 : ∀ b ∈ cut ns, b.length ≤ 20000 := fun b hb => by
      have := flat_mem_len hb
      rw [(good_cut ns).flat] at this
      omega
    have hcl := (good_cut ns).len
    show _
    unfold cntF at q
    generalize slotsF 0 1 ls = ss at *
    have SA : ∀ H', Own H0 H' T (.ob sp (.lst (ts.map V.ref)) :: (slotC ss ts ++ L)) → SlAt H' sp ts ss := fun H' B => ⟨B.get sp, tl, slotC_at B fun c hc => List.mem_cons_of_mem _ (List.mem_append_left _ hc)⟩
    repeat infer_instance
    refine u_split B (AA _ (B.sub ((List.sublist_append_right ..).trans (List.sublist_cons_self ..)))) (by omega) fun p qs H B => ?_
    repeat infer_instance
    refine ⟨H0, T, _, _, p, sp, qs, cut ns, ts, ss, wgtF 1 ls, rfl, B, inferInstance, fun H' C => SA H' C.tail, S, h0, hw, hb, by omega, hs2, fun o rs H hr1 hr2 B => ?_⟩
    obtain ⟨⟨d, kvs⟩, hd⟩ : ∃ r, rs[0]? = some r := ⟨_, List.getElem?_eq_getElem (by omega)⟩
    have tab := hr2 0 _ hd
    rw [List.drop_zero] at tab
    have hdr : (drf rs)[0]? = some (.ref d) := by unfold drf; rw [List.getElem?_map, hd]; rfl
    repeat infer_instance
    refine s_ixN (n := 0) B hdr ?_
    have hmem : Cell.ob d (.dK kvs) ∈ Cell.ob o (.lst (drf rs)) :: (dcs rs ++ Cell.fm p qs (vv (cut ns)) :: Cell.ob sp (.lst (ts.map V.ref)) :: (slotC ss ts ++ L)) := List.mem_cons_of_mem _ (List.mem_append_left _ (List.mem_map.mpr ⟨(d, kvs), List.mem_of_getElem? hd, rfl⟩))
    have dAt : ∀ H', Own H0 H' T (Cell.ob o (.lst (drf rs)) :: (dcs rs ++ Cell.fm p qs (vv (cut ns)) :: Cell.ob sp (.lst (ts.map V.ref)) :: (slotC ss ts ++ L))) → H' d = some (.dK kvs) := fun H' B => (B.ok _ hmem).1
    repeat infer_instance
    refine s_get2T (dAt _ B) ?_
    repeat infer_instance
    refine ⟨H0, T, _, sp, ts, ss, rfl, B, fun H' C => SA H' (C.sub ((List.sublist_cons_self ..).trans ((List.sublist_append_right ..).trans (List.sublist_cons_self ..)))), by omega, hb, fun H B => ?_⟩
    repeat infer_instance
    refine s_get2 (dAt _ B) ?_
    rw [tab.getD]
    exact q H (B.sub ((List.sublist_append_right ..).trans ((List.sublist_cons_self ..).trans ((List.sublist_cons_self ..).trans ((List.sublist_append_right ..).trans (List.sublist_cons_self ..))))))
end
end My
namespace My
open PySem PySem.Spec PyProof.Rows L2 LamX
/-- what can be done with a block: queue, state behind it, ways from there -/
def optsF (ss : List Slot) (s : Nat) (f : Nat → Nat) (ρ : Nat) : List Slot := (ss.filter fun sl => decide (s ≤ ρ / sl.2.1 % (sl.2.2 + 1)) && decide (f (ρ - s * sl.2.1) ≠ 0)).map fun sl => (sl.1, ρ - s * sl.2.1, f (ρ - s * sl.2.1))
theorem room_le {ρ w l s : Nat} (hw : 0 < w) (h : s ≤ ρ / w % (l + 1)) : s * w ≤ ρ := by
  have h1 : ρ / w % (l + 1) ≤ ρ / w := Nat.mod_le _ _
  have h2 : s ≤ ρ / w := Nat.le_trans h h1
  exact Nat.le_trans (Nat.mul_le_mul_right w h2) (Nat.div_mul_le_self ρ w)
theorem room_ok {ρ w l s : Nat} (hw : 0 < w) (le : s * w ≤ ρ) : ((ρ - s * w) / w % (l + 1) + s ≤ l) ↔ s ≤ ρ / w % (l + 1) := by
  have e : (ρ - s * w) / w = ρ / w - s := by rw [Nat.mul_comm, Nat.sub_mul_div]
  have h2 : s ≤ ρ / w := by
    rw [Nat.le_div_iff_mul_le hw]; exact le
  rw [e]
  obtain ⟨q, hq⟩ : ∃ q, ρ / w = q + s := ⟨ρ / w - s, by omega⟩
  rw [hq, Nat.add_sub_cancel]
  have hm : q % (l + 1) < l + 1 := Nat.mod_lt _ (Nat.succ_pos l)
  have hmm : (q + s) % (l + 1) = (q % (l + 1) + s) % (l + 1) := by rw [Nat.mod_add_mod]
  constructor
  · intro h
    rw [hmm, Nat.mod_eq_of_lt (by omega)]
    omega
  · intro h
    by_cases z : q % (l + 1) + s ≤ l
    · exact z
    · exfalso
      rw [hmm] at h
      have h3 : (q % (l + 1) + s) % (l + 1) < l + 1 := Nat.mod_lt _ (Nat.succ_pos l)
      have h4 : (q % (l + 1) + s) % (l + 1) = (q % (l + 1) + s - (l + 1)) % (l + 1) := Nat.mod_eq_sub_mod (by omega)
      rw [h4, Nat.mod_eq_of_lt (by omega)] at h
      omega
theorem opts_sum {cap : Nat} {ss : List Slot} (S : SlOk cap ss) (s : Nat) (f : Nat → Nat) (ρ : Nat) : ((optsF ss s f ρ).map (·.2.2)).sum = stepF ss s f ρ := by
  unfold optsF stepF
  have pos := S.pos
  clear S
  induction ss with
  | nil => rfl
  | cons sl ss ih =>
    have ih := ih fun x hx => pos x (List.mem_cons_of_mem _ hx)
    have hw := pos sl (List.mem_cons_self ..)
    rw [List.filter_cons, List.map_cons, List.sum_cons, ← ih]
    by_cases c : s * sl.2.1 ≤ ρ ∧ okS s (ρ - s * sl.2.1) sl = true
    · have c1 : s ≤ ρ / sl.2.1 % (sl.2.2 + 1) := (room_ok hw c.1).mp (of_decide_eq_true c.2)
      rw [if_pos c]
      by_cases z : f (ρ - s * sl.2.1) = 0
      · simp [z]
      · simp [z, c1]
    · have c1 : ¬ s ≤ ρ / sl.2.1 % (sl.2.2 + 1) := fun h => c ⟨room_le hw h, decide_eq_true ((room_ok hw (room_le hw h)).mpr h)⟩
      rw [if_neg c]
      simp [c1]
theorem opts_snoc (ss : List Slot) (s : Nat) (f : Nat → Nat) (ρ : Nat) (i : Nat) (sl : Slot) (h : ss[i]? = some sl) : optsF (ss.take (i + 1)) s f ρ = optsF (ss.take i) s f ρ ++ (if (decide (s ≤ ρ / sl.2.1 % (sl.2.2 + 1)) && decide (f (ρ - s * sl.2.1) ≠ 0)) = true then [(sl.1, ρ - s * sl.2.1, f (ρ - s * sl.2.1))] else []) := by
  unfold optsF
  rw [List.take_add_one, h, List.filter_append, List.map_append]
  congr 1
  show (List.filter _ [sl]).map _ = _
  rw [List.filter_cons]
  split <;> rfl
theorem opts_len (ss : List Slot) (s : Nat) (f : Nat → Nat) (ρ : Nat) : (optsF ss s f ρ).length ≤ ss.length := by
  unfold optsF
  rw [List.length_map]
  exact List.length_filter_le ..
local macro_rules | `(tactic| infer_instance) => `(tactic| first
  | with_reducible refine s_var (by with_unfolding_all exact rfl) ?_
  | with_reducible apply s_C
  | with_reducible apply s_op
  | with_reducible apply s_i0
  | with_reducible apply s_seq
  | with_reducible apply s_asg
  | with_reducible apply s_gn
  | with_reducible apply s_nil
  | with_reducible apply s_cons
  | with_reducible apply s_cb
  | with_reducible apply s_call
  | with_reducible apply s_un
  | with_reducible apply s_u
  | with_reducible apply s_test
  | with_reducible apply s_blV
  | with_reducible apply s_eqI
  | with_reducible apply s_neI
  | with_reducible apply s_ifs
  | with_reducible apply s_drop
  | with_reducible apply s_ret
  | with_reducible apply s_lst
  | with_reducible apply s_tup
  | with_reducible apply s_and
  | with_reducible apply s_or
  | with_reducible apply s_not
  | with_reducible apply s_tB
  | with_reducible apply s_bm
  | with_reducible apply s_bm0
  | with_reducible apply s_for
  | with_reducible apply s_iList
  | with_reducible apply s_iTup
  | with_reducible apply s_mndS
  | with_reducible apply s_srtS
  | with_reducible apply s_lc2S
  | with_reducible apply s_remS
  | with_reducible apply s_iRng
  | with_reducible apply s_iEnum
  | with_reducible apply s_iRng3
  | with_reducible apply s_iZip
  | with_reducible apply s_iZip3
  | with_reducible apply s_iRev
  | with_reducible apply s_get2S
  | with_reducible apply s_iEZ
  | with_reducible apply s_sl
  | with_reducible apply s_noPart
  | with_reducible apply s_part
  | with_reducible apply s_partI
  | with_reducible apply s_neS
  | with_reducible apply s_eqS
  | with_reducible apply s_lc
  | with_reducible apply s_dc
  | with_reducible apply s_dg
  | with_reducible apply s_di
  | with_reducible apply s_dni
  | with_reducible apply s_yes
  | with_reducible apply s_chain
  | with_reducible refine s_aug (by with_unfolding_all exact rfl) ?_
  | with_reducible apply s_ip
  | with_reducible apply s_revL
  | with_reducible apply s_gsub
  | with_reducible apply s_gslc
  | with_reducible apply s_parS
  | with_reducible apply s_par
  | with_reducible apply s_gc
  | with_reducible apply s_gnil
  | with_reducible apply s_brk
  | with_reducible apply s_cnt
  | with_reducible apply s_next
  | with_reducible apply s_andV
  | with_reducible apply s_orV
  | with_reducible apply s_notV
  | with_reducible apply s_isB
  | with_reducible apply s_notB
  | with_reducible apply s_max2
  | with_reducible apply s_min2
  | with_reducible apply s_abs
  | with_reducible apply s_intB
  | (with_reducible refine s_len (by assumption) ?_)
  | (with_reducible refine s_lenF (by assumption) ?_)
  | (with_reducible refine s_ty (by assumption) ?_)
  | (with_reducible refine s_tyF (by assumption) ?_)
  | (with_reducible refine s_i (by first | decide | exact cpow_ok (by decide) (by decide) (by decide) | exact cdivw (by decide) (by decide) | exact cmul_l (by decide) (by decide) | exact cmul_r (by decide) (by decide) | omega | exact cmul_l (by omega) (by omega) | exact cmul_r (by omega) (by omega)) ?_))

abbrev nOptionsIn : List Str := ["room", "ways", "size", "slots", "options", "slot", "index", "weight", "length", "less"]
theorem scOptionsIn : FnScope nOptionsIn ["room", "ways", "size", "slots"] (defScope sOptionsIn) := ⟨rfl, rfl, rfl, by decide +kernel, rfl, by decide +kernel, by decide +kernel⟩

section
variable {P : Program} {w : World} {K : PySem.W.Frag} {mg : Str → Option Value} {base : Heap}
def spOptionsIn : Sp := fun vs H Q _ => ∃ (H0 : Hp) (T : List (Addr × Str)) (L : List Cell) (d sp : Addr) (kvs : List (Key × V)) (f : Nat → Nat) (ts : List Addr) (ss : List Slot) (cap ρ s : Nat), vs = [.int (ρ : Int), .ref d, .int (s : Int), .ref sp] ∧ Own H0 H T L ∧
  (∀ H', Own H0 H' T L → H' d = some (.dK kvs)) ∧ DTab kvs f ∧ (∀ H', Own H0 H' T L → SlAt H' sp ts ss) ∧ SlOk cap ss ∧ (∀ s ∈ ss, s.2.1 ≤ 20000 ∧ s.2.2 ≤ 20000) ∧ s ≤ 20000 ∧ ρ ≤ 20000 ∧ ss.length ≤ 1000 ∧
  ∀ o us H', us.length = (optsF ss s f ρ).length → Own H0 H' T (.ob o (.lst (us.map V.ref)) :: (slotC (optsF ss s f ρ) us ++ L)) → Q (.ref o) H'
set_option maxHeartbeats 0 in
theorem ok_OptionsIn {f : Addr} {fd : FuncData} {k : Nat} (F : Fun K "options_in" "options_in" sOptionsIn f fd) (Tx : Txt mg) (C_room_in : Cal P w K mg base k "room_in" ["room", "slot"] spRoomIn) : FnOk P w K mg base CX0 (k + 1) f fd ["room", "ways", "size", "slots"] spOptionsIn := by
  refine F.ok scOptionsIn (fun vs H Q E h => ?_) (fun cdv A outer s H vs Q E hr h => ?_)
  · obtain ⟨_, _, _, d, sp, kvs, f, ts, ss, cap, ρ, s, rfl, _⟩ := h
    rfl
  · obtain ⟨H0, T, L, d, sp, kvs, f, ts, ss, cap, ρ, sz, rfl, B, dAt, tab, A, S, hb, hs, hρ, hl, q⟩ := h
    refine ⟨_, (pss_cons (ps_set (i := 4) scOptionsIn.nd rfl (.inl rfl) (pe_lst pa_nil))
 (pss_cons (ps_for PassesOwn.never rfl (pi_list (pv 3)) (pg_name (i := 5) scOptionsIn.nd rfl (Or.inl rfl))
  (pss_cons (ps_asg (pv 5) (pg_tup (by rfl) (pgs_cons (pg_name (i := 6) scOptionsIn.nd rfl (Or.inl rfl)) (pgs_cons (pg_name (i := 7) scOptionsIn.nd rfl (Or.inl rfl)) (pgs_cons (pg_name (i := 8) scOptionsIn.nd rfl (Or.inl rfl)) pgs_nil)))))
 (pss_cons (ps_set (i := 9) scOptionsIn.nd rfl (.inl rfl) (pe_op op_sub (pv 0) (pe_op op_mul (pv 2) (pv 7))))
 (pss_one (ps_if (PW.pt (pw_and (pt_cmpR op_ge (pe_cal C_room_in hr (by rfl) (pa_cons (pv 0) (pa_cons (pv 5) pa_nil))) (pv 2) (by rfl)) (pw_and1 (pt_cmp (pc_din (hu1_of hr) (pv 9) (pv 1)) (by rfl)))))
  (pss_one (ps_expr (pe_bm PySem.F.plainAttrs_list PySem.F.slot_list_append PySem.F.type_list_append mt_append (pv 4) (pa_cons (pe_tup (pa_cons (pv 6) (pa_cons (pv 9) (pa_cons (pe_dget (hu1_of hr) (pv 1) (pv 9) (fun _ _ => rfl)) pa_nil)))) pa_nil)))) pss_nil)))))
 (pss_one (ps_ret (pv 4))))), ?_⟩
    repeat infer_instance
    refine s_newL B (Nat.zero_le _) fun o H B => ?_
    repeat infer_instance
    refine s_itH (A _ B.tail).top ?_
    have tl := (A _ B.tail).len
    have lt : ∀ {H' : Hp} {us : List Addr} {i : Nat}, Own H0 H' T (.ob o (.lst (us.map V.ref)) :: (slotC (optsF (ss.take i) sz f ρ) us ++ L)) → Own H0 H' T L := fun B => B.sub ((List.sublist_append_right ..).trans (List.sublist_cons_self ..))
    refine s_forL (fun i σ M => (∃ y5 y6 y7 y8 y9 : Option V, σ = [some (.int (ρ : Int)), some (.ref d), some (.int (sz : Int)), some (.ref sp), some (.ref o), y5, y6, y7, y8, y9]) ∧ ∃ us : List Addr, us.length = (optsF (ss.take i) sz f ρ).length ∧ M = .ob o (.lst (us.map V.ref)) :: (slotC (optsF (ss.take i) sz f ρ) us ++ L)) (ts.map V.ref) B ⟨⟨_, _, _, _, _, rfl⟩, [], rfl, rfl⟩ ?_ ?_ ?_
    · rintro i σ M H ⟨_, us, ul, rfl⟩ B
      exact SqL.of (A _ (lt B)).top
    · rintro i x σ M H hx ⟨⟨y5, y6, y7, y8, y9, rfl⟩, us, ul, rfl⟩ B
      rw [List.getElem?_map] at hx
      obtain ⟨t, ht, rfl⟩ := Option.map_eq_some_iff.mp hx
      have til := (List.getElem?_eq_some_iff.mp ht).1
      have hsl : ss[i]? = some (ss[i]'(by omega)) := List.getElem?_eq_getElem _
      generalize ss[i]'(by omega) = sl at hsl
      have hsm := List.mem_of_getElem? hsl
      obtain ⟨b1, b2⟩ := hb sl hsm
      have hw := S.pos sl hsm
      have ht3 := (A _ (lt B)).tup i t sl ht hsl
      have sn := opts_snoc ss sz f ρ i sl hsl
      repeat infer_instance
      refine s_gt3 ht3 rfl ?_
      repeat infer_instance
      refine ⟨ρ, t, sl, rfl, ht3, hw, b1, b2, ?_⟩
      repeat infer_instance
      have same : (decide (sz ≤ ρ / sl.2.1 % (sl.2.2 + 1)) && decide (f (ρ - sz * sl.2.1) ≠ 0)) = false → optsF (ss.take (i + 1)) sz f ρ = optsF (ss.take i) sz f ρ := fun z => by
        rw [sn, z, if_neg (by decide), List.append_nil]
      refine iteD (fun le => ?_) (fun gt => ?_)
      · have le : sz ≤ ρ / sl.2.1 % (sl.2.2 + 1) := Int.ofNat_le.mp le
        have zle := room_le hw le
        have em : (ρ : Int) - (sz : Int) * (sl.2.1 : Int) = ((ρ - sz * sl.2.1 : Nat) : Int) := by
          rw [Int.natCast_sub zle, Int.natCast_mul]
        rw [em]
        have hv := tab.val (ρ - sz * sl.2.1)
        repeat infer_instance
        refine s_din (dAt _ (lt B)) ?_
        by_cases z : f (ρ - sz * sl.2.1) = 0
        · rw [if_pos z] at hv
          rw [hv]
          repeat infer_instance
          refine iteF ?_
          have es := same (by rw [z]; simp)
          rw [← es] at B ul
          exact s_inn B ⟨⟨_, _, _, _, _, rfl⟩, us, ul, rfl⟩
        · rw [if_neg z] at hv
          rw [hv]
          repeat infer_instance
          refine iteT ?_
          repeat infer_instance
          refine s_dget (dAt _ (lt B)) hv ?_
          repeat infer_instance
          refine s_newT B (show 3 ≤ sizeLine from by decide) fun t2 H B => ?_
          repeat infer_instance
          have ol := opts_len (ss.take i) sz f ρ
          rw [List.length_take] at ol
          refine s_append B (by rw [List.length_map]; unfold sizeLine; omega) fun H B => ?_
          have es : optsF (ss.take (i + 1)) sz f ρ = optsF (ss.take i) sz f ρ ++ [(sl.1, ρ - sz * sl.2.1, f (ρ - sz * sl.2.1))] := by
            rw [sn, if_pos (by rw [decide_eq_true le, decide_eq_true z]; rfl)]
          have B : Own H0 H T (.ob o (.lst ((us ++ [t2]).map V.ref)) :: (slotC (optsF (ss.take (i + 1)) sz f ρ) (us ++ [t2]) ++ L)) := by
            rw [es, slotC_snoc ul.symm, List.append_assoc, List.map_append]
            exact B.perm (List.Perm.cons _ List.perm_middle.symm)
          exact s_inn B ⟨⟨_, _, _, _, _, rfl⟩, us ++ [t2], by rw [es, List.length_append, List.length_append, ul]; rfl, rfl⟩
      · have gt : ¬ sz ≤ ρ / sl.2.1 % (sl.2.2 + 1) := fun h => gt (Int.ofNat_le.mpr h)
        repeat infer_instance
        have es := same (by simp [gt])
        rw [← es] at B ul
        refine iteF ?_
        exact s_inn B ⟨⟨_, _, _, _, _, rfl⟩, us, ul, rfl⟩
    · rintro σ M H ⟨⟨y5, y6, y7, y8, y9, rfl⟩, us, ul, rfl⟩ B
      rw [List.length_map, tl, List.take_length] at ul B
      repeat infer_instance
      exact q o us H ul B
end
end My
namespace My
open PySem PySem.Spec PyProof.Rows L2 LamX
/-- the option that holds the number, and the number within it -/
def pickO : List Slot → Nat → Option (Slot × Nat)
  | [], _ => none
  | o :: os, n => if o.2.2 ≤ n then pickO os (n - o.2.2) else some (o, n)
def nthF (ss : List Slot) : List Nat → Nat → Nat → List Nat
  | [], _, _ => []
  | s :: bs, ρ, n => match pickO (optsF ss s (waysF ss bs) ρ) n with
    | none => []
    | some (o, r) => o.1 :: nthF ss bs o.2.1 r
theorem pickO_some : ∀ (os : List Slot) (n : Nat), n < (os.map (·.2.2)).sum → ∃ o r, pickO os n = some (o, r) ∧ o ∈ os ∧ r < o.2.2
  | [], n, h => absurd h (Nat.not_lt_zero _)
  | o :: os, n, h => by
    unfold pickO
    by_cases c : o.2.2 ≤ n
    · rw [if_pos c]
      rw [List.map_cons, List.sum_cons] at h
      obtain ⟨o', r, h1, h2, h3⟩ := pickO_some os (n - o.2.2) (by omega)
      exact ⟨o', r, h1, List.mem_cons_of_mem _ h2, h3⟩
    · rw [if_neg c]
      exact ⟨o, n, rfl, List.mem_cons_self .., by omega⟩
theorem opts_mem {ss : List Slot} {s ρ : Nat} {f : Nat → Nat} {o : Slot} (h : o ∈ optsF ss s f ρ) : ∃ sl ∈ ss, o = (sl.1, ρ - s * sl.2.1, f (ρ - s * sl.2.1)) := by
  obtain ⟨sl, h1, rfl⟩ := List.mem_map.mp h
  exact ⟨sl, (List.mem_filter.mp h1).1, rfl⟩
theorem nthF_cons {cap : Nat} {ss : List Slot} (S : SlOk cap ss) {s : Nat} {bs : List Nat} {ρ n : Nat} (h : n < waysF ss (s :: bs) ρ) : ∃ o r, pickO (optsF ss s (waysF ss bs) ρ) n = some (o, r) ∧ (∃ sl ∈ ss, o.1 = sl.1) ∧ o.2.1 ≤ ρ ∧ r < waysF ss bs o.2.1 ∧ nthF ss (s :: bs) ρ n = o.1 :: nthF ss bs o.2.1 r := by
  have h2 : n < ((optsF ss s (waysF ss bs) ρ).map (·.2.2)).sum := by rw [opts_sum S]; exact h
  obtain ⟨o, r, h3, h4, h5⟩ := pickO_some _ _ h2
  obtain ⟨sl, h6, h7⟩ := opts_mem h4
  refine ⟨o, r, h3, ⟨sl, h6, by rw [h7]⟩, by rw [h7]; exact Nat.sub_le .., ?_, ?_⟩
  · rw [h7] at h5 ⊢; exact h5
  · show (match pickO (optsF ss s (waysF ss bs) ρ) n with
      | none => []
      | some (o, r) => o.1 :: nthF ss bs o.2.1 r) = _
    rw [h3]
theorem slots_idx : ∀ (ls : List Nat) (i w : Nat), ∀ s ∈ slotsF i w ls, s.1 < i + ls.length
  | [], _, _, s, h => nomatch h
  | l :: ls, i, w, s, h => by
    have h : s ∈ (if 0 < l then (i, w, l) :: slotsF (i + 1) (w * (l + 1)) ls else slotsF (i + 1) w ls) := h
    rw [List.length_cons]
    split at h
    · rcases List.mem_cons.mp h with rfl | h
      · show i < _; omega
      · have := slots_idx ls (i + 1) _ s h; omega
    · have := slots_idx ls (i + 1) _ s h; omega
theorem cut_fromN {xs : List V} (j : Nat) : cutV xs (some (j : Int)) none = xs.drop j := by
  unfold cutV
  rw [HT.sIx_nat, HT.sIx_none]
  rcases Nat.le_total j xs.length with h | h
  · rw [Nat.min_eq_left h, List.take_of_length_le (by rw [List.length_drop]; omega)]
  · rw [Nat.min_eq_right h, List.drop_of_length_le (Nat.le_refl _), List.drop_of_length_le h, List.take_nil]
theorem Own.cellN {H0 H : Hp} {T : List (Addr × Str)} {L : List Cell} {t : Addr} {o : HO} (B : Own H0 H T L) (h : Cell.ob t o ∈ L) : H t = some o := (B.ok _ h).1
local macro_rules | `(tactic| infer_instance) => `(tactic| first
  | with_reducible refine s_var (by with_unfolding_all exact rfl) ?_
  | with_reducible apply s_C
  | with_reducible apply s_op
  | with_reducible apply s_i0
  | with_reducible apply s_seq
  | with_reducible apply s_asg
  | with_reducible apply s_gn
  | with_reducible apply s_nil
  | with_reducible apply s_cons
  | with_reducible apply s_cb
  | with_reducible apply s_call
  | with_reducible apply s_un
  | with_reducible apply s_u
  | with_reducible apply s_test
  | with_reducible apply s_blV
  | with_reducible apply s_eqI
  | with_reducible apply s_neI
  | with_reducible apply s_ifs
  | with_reducible apply s_drop
  | with_reducible apply s_ret
  | with_reducible apply s_lst
  | with_reducible apply s_tup
  | with_reducible apply s_and
  | with_reducible apply s_or
  | with_reducible apply s_not
  | with_reducible apply s_tB
  | with_reducible apply s_bm
  | with_reducible apply s_bm0
  | with_reducible apply s_for
  | with_reducible apply s_iList
  | with_reducible apply s_iTup
  | with_reducible apply s_mndS
  | with_reducible apply s_srtS
  | with_reducible apply s_lc2S
  | with_reducible apply s_remS
  | with_reducible apply s_iRng
  | with_reducible apply s_iEnum
  | with_reducible apply s_iRng3
  | with_reducible apply s_iZip
  | with_reducible apply s_iZip3
  | with_reducible apply s_iRev
  | with_reducible apply s_get2S
  | with_reducible apply s_iEZ
  | with_reducible apply s_sl
  | with_reducible apply s_noPart
  | with_reducible apply s_part
  | with_reducible apply s_partI
  | with_reducible apply s_neS
  | with_reducible apply s_eqS
  | with_reducible apply s_lc
  | with_reducible apply s_dc
  | with_reducible apply s_dg
  | with_reducible apply s_di
  | with_reducible apply s_dni
  | with_reducible apply s_yes
  | with_reducible apply s_chain
  | with_reducible refine s_aug (by with_unfolding_all exact rfl) ?_
  | with_reducible apply s_ip
  | with_reducible apply s_revL
  | with_reducible apply s_gsub
  | with_reducible apply s_gslc
  | with_reducible apply s_parS
  | with_reducible apply s_par
  | with_reducible apply s_gc
  | with_reducible apply s_gnil
  | with_reducible apply s_brk
  | with_reducible apply s_cnt
  | with_reducible apply s_next
  | with_reducible apply s_andV
  | with_reducible apply s_orV
  | with_reducible apply s_notV
  | with_reducible apply s_isB
  | with_reducible apply s_notB
  | with_reducible apply s_max2
  | with_reducible apply s_min2
  | with_reducible apply s_abs
  | with_reducible apply s_intB
  | (with_reducible refine s_len (by assumption) ?_)
  | (with_reducible refine s_lenF (by assumption) ?_)
  | (with_reducible refine s_ty (by assumption) ?_)
  | (with_reducible refine s_tyF (by assumption) ?_)
  | (with_reducible refine s_i (by first | decide | exact cpow_ok (by decide) (by decide) (by decide) | exact cdivw (by decide) (by decide) | exact cmul_l (by decide) (by decide) | exact cmul_r (by decide) (by decide) | omega | exact cmul_l (by omega) (by omega) | exact cmul_r (by omega) (by omega)) ?_))

abbrev nNthWithLengths : List Str := ["result", "lengths", "number", "blocks", "slots", "room", "rest", "assignment", "block", "ways", "options", "at", "index", "_"]
theorem scNthWithLengths : FnScope nNthWithLengths ["result", "lengths", "number"] (defScope sNthWithLengths) := ⟨rfl, rfl, rfl, by decide +kernel, rfl, by decide +kernel, by decide +kernel⟩

section
variable {P : Program} {w : World} {K : PySem.W.Frag} {mg : Str → Option Value} {base : Heap}
def nthA (ns : List Int) (ls : List Nat) (n : Nat) : List Nat := nthF (slotsF 0 1 ls) (szs (cut ns)) (fullF (slotsF 0 1 ls)) n
def spNthWithLengths : Sp := fun vs H Q _ => ∃ (H0 : Hp) (T : List (Addr × Str)) (L L1 L2 : List Cell) (a al : Addr) (ns : List Int) (ls : List Nat) (n : Nat), vs = [.ref a, .ref al, .int (n : Int)] ∧ Own H0 H T L ∧ L.Perm (.ob a (.lst (ns.map V.int)) :: L1) ∧ L.Perm (.ob al (.lst ((nis ls).map V.int)) :: L2) ∧ ns.Nodup ∧ ns.length ≤ 1000 ∧ ls ≠ [] ∧ ls.length ≤ 1000 ∧ wgtF 1 ls ≤ 20000 ∧ n < cntF ns ls ∧
  ∀ p qs H', Own H0 H' T (.fm p qs (vv (spread ls.length ((nthA ns ls n).zip (cut ns)))) :: L) → Q (.ref p) H'
set_option maxHeartbeats 0 in
theorem ok_NthWithLengths {f : Addr} {fd : FuncData} {k : Nat} (F : Fun K "nth_with_lengths" "nth_with_lengths" sNthWithLengths f fd) (Tx : Txt mg) (C_require_index : Cal P w K mg base k "require_index" ["value", "many"] spRequireIndex) (C_split_blocks : Cal P w K mg base k "split_blocks" ["numbers"] spSplit) (C_spread_blocks : Cal P w K mg base k "spread_blocks" ["blocks", "assignment", "many"] spSpreadBlocks) (C_slots_of : Cal P w K mg base k "slots_of" ["lengths"] spSlotsOf) (C_full_room : Cal P w K mg base k "full_room" ["slots"] spFullRoom) (C_ways_of : Cal P w K mg base k "ways_of" ["blocks", "slots"] spWaysOf) (C_options_in : Cal P w K mg base k "options_in" ["room", "ways", "size", "slots"] spOptionsIn) (C_count_with_lengths : Cal P w K mg base k "count_with_lengths" ["result", "lengths"] spCountWithLengths) : FnOk P w K mg base CX0 (k + 1) f fd ["result", "lengths", "number"] spNthWithLengths := by
  refine F.ok scNthWithLengths (fun vs H Q E h => ?_) (fun cdv A outer s H vs Q E hr h => ?_)
  · obtain ⟨_, _, _, _, _, a, al, ns, ls, n, rfl, _⟩ := h
    rfl
  · obtain ⟨H0, T, L, L1, L2, a, al, ns, ls, n, rfl, B, p1, p2, nd, hn, hl0, hl, hw, hnc, q⟩ := h
    haveI : Pull L a (.ob a (.lst (ns.map V.int))) L1 := ⟨p1⟩
    have AL : ∀ H', Own H0 H' T L → H' al = some (.lst ((nis ls).map V.int)) := fun H' B => by
      haveI : Pull L al (.ob al (.lst ((nis ls).map V.int))) L2 := ⟨p2⟩
      exact B.get al
    have AA : ∀ H', Own H0 H' T L → H' a = some (.lst (ns.map V.int)) := fun H' B => B.get a
    refine ⟨_, (pss_cons (ps_expr (pe_cal C_require_index hr (by rfl) (pa_cons (pv 2) (pa_cons (pe_cal C_count_with_lengths hr (by rfl) (pa_cons (pv 0) (pa_cons (pv 1) pa_nil))) pa_nil))))
 (pss_cons (ps_set (i := 3) scNthWithLengths.nd rfl (.inl rfl) (pe_cal C_split_blocks hr (by rfl) (pa_cons (pv 0) pa_nil)))
 (pss_cons (ps_set (i := 4) scNthWithLengths.nd rfl (.inl rfl) (pe_cal C_slots_of hr (by rfl) (pa_cons (pv 1) pa_nil)))
 (pss_cons (ps_set (i := 5) scNthWithLengths.nd rfl (.inl rfl) (pe_cal C_full_room hr (by rfl) (pa_cons (pv 4) pa_nil)))
 (pss_cons (ps_set (i := 6) scNthWithLengths.nd rfl (.inl rfl) (pv 2))
 (pss_cons (ps_set (i := 7) scNthWithLengths.nd rfl (.inl rfl) (pe_lst pa_nil))
 (pss_cons (ps_for PassesOwn.never rfl (RZ.pi_zipA (by rfl) Tx.zip (pa_cons (pv 3) (pa_cons (pe_slice sl_list (pe_cal C_ways_of hr (by rfl) (pa_cons (pv 3) (pa_cons (pv 4) pa_nil))) (po_some pe_int) po_none) pa_nil))) (pg_tup (by rfl) (pgs_cons (pg_name (i := 8) scNthWithLengths.nd rfl (Or.inl rfl)) (pgs_cons (pg_name (i := 9) scNthWithLengths.nd rfl (Or.inl rfl)) pgs_nil)))
  (pss_cons (ps_set (i := 10) scNthWithLengths.nd rfl (.inl rfl) (pe_cal C_options_in hr (by rfl) (pa_cons (pv 5) (pa_cons (pv 9) (pa_cons (pe_callB (cl_len) (by rfl) Tx.len (by decide +kernel) (pa_cons (pv 8) pa_nil)) (pa_cons (pv 4) pa_nil))))))
 (pss_cons (ps_set (i := 11) scNthWithLengths.nd rfl (.inl rfl) pe_int)
 (pss_cons (ps_while PassesOwn.never (pt_cmpR op_ge (pv 6) (pe_ix ix_tup (pe_ix ix_list (pv 10) (pv 11) (fun _ _ => rfl)) pe_int (fun _ _ => rfl)) (nomark _))
  (pss_cons (ps_set (i := 6) scNthWithLengths.nd rfl (.inl rfl) (pe_op op_sub (pv 6) (pe_ix ix_tup (pe_ix ix_list (pv 10) (pv 11) (fun _ _ => rfl)) pe_int (fun _ _ => rfl))))
 (pss_one (ps_aug (i := 11) scNthWithLengths.nd rfl (.inl rfl) pe_int ip_add))))
 (pss_cons (ps_asg (pe_ix ix_list (pv 10) (pv 11) (fun _ _ => rfl)) (pg_tup (by rfl) (pgs_cons (pg_name (i := 12) scNthWithLengths.nd rfl (Or.inl rfl)) (pgs_cons (pg_name (i := 5) scNthWithLengths.nd rfl (Or.inl rfl)) (pgs_cons (pg_name (i := 13) scNthWithLengths.nd rfl (Or.inl rfl)) pgs_nil)))))
 (pss_one (ps_expr (pe_bm PySem.F.plainAttrs_list PySem.F.slot_list_append PySem.F.type_list_append mt_append (pv 7) (pa_cons (pv 12) pa_nil)))))))))
 (pss_one (ps_ret (pe_cal C_spread_blocks hr (by rfl) (pa_cons (pv 3) (pa_cons (pv 7) (pa_cons (pe_callB (cl_len) (by rfl) Tx.len (by decide +kernel) (pa_cons (pv 1) pa_nil)) pa_nil))))))))))))), ?_⟩
    repeat infer_instance
    refine ⟨H0, T, L, L1, L2, a, al, ns, ls, rfl, B, p1, p2, nd, hn, hl0, hl, hw, fun H B => ?_⟩
    repeat infer_instance
    refine ⟨_, _, rfl, by omega, Int.ofNat_lt.mpr hnc, ?_⟩
    repeat infer_instance
    refine u_split B (AA _ B) (by omega) fun pb qb H B => ?_
    have hqb := B.lenF pb
    repeat infer_instance
    refine ⟨H0, T, _, al, ls, rfl, B, fun H' B' => AL _ B'.tail, hl, hw, fun sp ts H tl B => ?_⟩
    have S := slots_ok ls 0 1 Nat.one_pos
    have h0 := wgt_pos ls Nat.one_pos
    have hb := slot_small S h0 hw
    have hsl := slots_len ls 0 1
    have hid := slots_idx ls 0 1
    have hs2 : ∀ b ∈ cut ns, b.length ≤ 20000 := fun b hb => by
      have := flat_mem_len hb
      rw [(good_cut ns).flat] at this
      omega
    have hcl := (good_cut ns).len
    unfold nthA at q
    unfold cntF at hnc
    generalize slotsF 0 1 ls = ss at *
    have B : Own H0 H T (.fm pb qb (vv (cut ns)) :: .ob sp (.lst (ts.map V.ref)) :: (slotC ss ts ++ L)) := B.perm ((List.Perm.cons _ List.perm_middle).trans (List.Perm.swap ..))
    have SA : ∀ H', Own H0 H' T (.ob sp (.lst (ts.map V.ref)) :: (slotC ss ts ++ L)) → SlAt H' sp ts ss := fun H' B => ⟨B.get sp, tl, slotC_at B fun c hc => List.mem_cons_of_mem _ (List.mem_append_left _ hc)⟩
    repeat infer_instance
    refine ⟨H0, T, _, sp, ts, ss, rfl, B, fun H' C => SA H' C.tail, by omega, hb, fun H B => ?_⟩
    repeat infer_instance
    refine s_newL B (Nat.zero_le _) fun ap H B => ?_
    repeat infer_instance
    refine ⟨H0, T, _, _, pb, sp, qb, cut ns, ts, ss, wgtF 1 ls, rfl, B, inferInstance, fun H' C => SA H' C.tail.tail, S, h0, hw, hb, by omega, hs2, fun o rs H hr1 hr2 B => ?_⟩
    repeat infer_instance
    refine s_slL B (B.get o) fun o2 H B => ?_
    have ec : cutV (drf rs) (some 1) none = drf (rs.drop 1) := by
      have h := cut_fromN (xs := drf rs) 1
      unfold drf at h ⊢
      rw [List.map_drop]
      exact h
    rw [ec] at B
    obtain ⟨R, eR⟩ : ∃ R, R = Cell.ob o2 (.lst (drf (rs.drop 1))) :: (dcs rs ++ (.fm pb qb (vv (cut ns)) :: .ob sp (.lst (ts.map V.ref)) :: (slotC ss ts ++ L))) := ⟨_, rfl⟩
    have B : Own H0 H T (.ob ap (.lst ((nI []).map V.int)) :: R) := by
      rw [eR]
      exact (Own.tail (c := .ob o (.lst (drf rs))) (B.perm ((List.Perm.swap ..).trans (List.Perm.cons _ ((List.Perm.cons _ List.perm_middle).trans (List.Perm.swap ..))))))
    have dAt : ∀ (i : Nat) (r : DRow), rs[i]? = some r → ∀ H', Own H0 H' T R → H' r.1 = some (.dK r.2) := fun i r hr H' B' => B'.cellN (by rw [eR]; exact List.mem_cons_of_mem _ (List.mem_append_left _ (List.mem_map.mpr ⟨r, List.mem_of_getElem? hr, rfl⟩)))
    have oAt : ∀ H', Own H0 H' T R → H' o2 = some (.lst (drf (rs.drop 1))) := fun H' B' => B'.cellN (by rw [eR]; exact List.mem_cons_self ..)
    have sub : (Cell.ob sp (.lst (ts.map V.ref)) :: (slotC ss ts ++ L)).Sublist R := by
      rw [eR]; exact (List.sublist_cons_self ..).trans ((List.sublist_append_right ..).trans (List.sublist_cons_self ..))
    have pbm : ∃ N, R.Perm (.fm pb qb (vv (cut ns)) :: N) := ⟨Cell.ob o2 (.lst (drf (rs.drop 1))) :: (dcs rs ++ (.ob sp (.lst (ts.map V.ref)) :: (slotC ss ts ++ L))), by rw [eR]; exact (List.Perm.cons _ List.perm_middle).trans (List.Perm.swap ..)⟩
    obtain ⟨N, pN⟩ := pbm
    haveI iR : Pull R pb (.fm pb qb (vv (cut ns))) N := ⟨pN⟩
    have subL : L.Sublist R := ((List.sublist_append_right ..).trans (List.sublist_cons_self ..)).trans sub
    clear eR
    repeat infer_instance
    refine s_itZ (SqL.of (B.getF pb)) (SqL.of (oAt _ B.tail)) ?_
    have hfull : fullF ss ≤ 20000 := by
      have := waysF_cap S h0 (szs (cut ns)) (fullF ss) (by omega)
      omega
    refine s_forZ (fun i σ N => ∃ (as : List Nat) (ρ r : Nat) (y8 y9 y10 y11 y12 y13 : Option V), σ = [some (.ref a), some (.ref al), some (.int (n : Int)), some (.ref pb), some (.ref sp), some (.int (ρ : Int)), some (.int (r : Int)), some (.ref ap), y8, y9, y10, y11, y12, y13] ∧ as.length = i ∧ (∀ x ∈ as, x < ls.length) ∧ ρ ≤ 20000 ∧ r < waysF ss ((szs (cut ns)).drop i) ρ ∧ as ++ nthF ss ((szs (cut ns)).drop i) ρ r = nthF ss (szs (cut ns)) (fullF ss) n ∧ N = .ob ap (.lst ((nI as).map V.int)) :: R) (qb.map V.ref) (drf (rs.drop 1)) (by unfold drf; rw [List.length_map, List.length_map, List.length_drop]; omega) B ⟨[], fullF ss, n, _, _, _, _, _, _, rfl, rfl, (fun _ h => nomatch h), hfull, by rw [List.drop_zero]; exact hnc, by rw [List.drop_zero]; rfl, rfl⟩ ?_ ?_ ?_
    · rintro i σ M H ⟨as, ρ, r, _, _, _, _, _, _, _, _, _, _, _, _, rfl⟩ B
      exact ⟨SqL.of (B.getF pb), SqL.of (oAt _ B.tail)⟩
    · rintro i x y σ M H hx hy ⟨as, ρ, r, y8, y9, y10, y11, y12, y13, rfl, al2, alt, hρ, hr, hnth, rfl⟩ B
      rw [List.getElem?_map] at hx
      obtain ⟨qq, hq, rfl⟩ := Option.map_eq_some_iff.mp hx
      obtain ⟨b, hb1, hrow⟩ := B.rowOf pb hq
      have hbl := hs2 b (List.mem_of_getElem? hb1)
      unfold drf at hy
      rw [List.getElem?_map, List.getElem?_drop] at hy
      obtain ⟨⟨d, kvs⟩, hd, rfl⟩ := Option.map_eq_some_iff.mp hy
      rw [Nat.add_comm] at hd
      have tab : DTab kvs (waysF ss ((szs (cut ns)).drop (i + 1))) := hr2 (i + 1) (d, kvs) hd
      have dA := dAt (i + 1) (d, kvs) hd
      have e4 : (szs (cut ns)).drop i = b.length :: (szs (cut ns)).drop (i + 1) := by
        have hb3 : (szs (cut ns))[i]? = some b.length := by rw [List.getElem?_map, hb1]; rfl
        obtain ⟨hl4, hb4⟩ := List.getElem?_eq_some_iff.mp hb3
        rw [List.drop_eq_getElem_cons hl4, hb4]
      rw [e4] at hr hnth
      obtain ⟨o, r2, pk, ⟨sl, slm, osl⟩, ole, hr3, hcons⟩ := nthF_cons S hr
      rw [hcons] at hnth
      repeat infer_instance
      refine s_lenH hrow ?_
      rw [List.length_map]
      repeat infer_instance
      refine ⟨H0, T, _, d, sp, kvs, _, ts, ss, wgtF 1 ls, ρ, b.length, rfl, B, fun H' C => dA H' C.tail, tab, fun H' C => SA H' (C.tail.sub sub), S, hb, hbl, hρ, by omega, fun o3 us H ul B => ?_⟩
      generalize optsF ss b.length (waysF ss ((szs (cut ns)).drop (i + 1))) ρ = os at ul B pk
      repeat infer_instance
      refine s_while (fun m σ M => ∃ (j n2 : Nat), σ = [some (.ref a), some (.ref al), some (.int (n : Int)), some (.ref pb), some (.ref sp), some (.int (ρ : Int)), some (.int (n2 : Int)), some (.ref ap), some (.ref qq), some (.ref d), some (.ref o3), some (.int (j : Int)), y12, y13] ∧ m = os.length - j ∧ pickO (os.drop j) n2 = some (o, r2) ∧ M = .ob o3 (.lst (us.map V.ref)) :: (slotC os us ++ (.ob ap (.lst ((nI as).map V.int)) :: R))) os.length B ⟨0, r, rfl, rfl, pk, rfl⟩ ?_
      rintro m σ M H ⟨j, n2, rfl, rfl, pj, rfl⟩ B
      have hj : j < os.length := by
        refine Classical.byContradiction fun z => ?_
        rw [List.drop_of_length_le (by omega)] at pj
        cases pj
      obtain ⟨oj, hoj⟩ : ∃ x, os[j]? = some x := ⟨_, List.getElem?_eq_getElem hj⟩
      obtain ⟨tj, htj⟩ : ∃ x, us[j]? = some x := ⟨_, List.getElem?_eq_getElem (by omega)⟩
      have tA : ∀ H', Own H0 H' T (.ob o3 (.lst (us.map V.ref)) :: (slotC os us ++ (.ob ap (.lst ((nI as).map V.int)) :: R))) → H' tj = some (.tup [.int (oj.1 : Int), .int (oj.2.1 : Int), .int (oj.2.2 : Int)]) := fun H' B' => slotC_at B' (fun c hc => List.mem_cons_of_mem _ (List.mem_append_left _ hc)) j tj oj htj hoj
      have edr : os.drop j = oj :: os.drop (j + 1) := by
        obtain ⟨h1, h2⟩ := List.getElem?_eq_some_iff.mp hoj
        rw [List.drop_eq_getElem_cons h1, h2]
      rw [edr] at pj
      unfold pickO at pj
      have hx2 : (us.map V.ref)[j]? = some (.ref tj) := by rw [List.getElem?_map, htj]; rfl
      repeat infer_instance
      refine s_ixN B hx2 ?_
      repeat infer_instance
      refine s_ixTH (tA _ B) (i := 2) (v := .int (oj.2.2 : Int)) rfl ?_
      repeat infer_instance
      refine iteD (fun le => ?_) (fun gt => ?_)
      · have le : oj.2.2 ≤ n2 := Int.ofNat_le.mp le
        rw [if_pos le] at pj
        refine s_whB ?_
        repeat infer_instance
        refine s_ixN B hx2 ?_
        repeat infer_instance
        refine s_ixTH (tA _ B) (i := 2) (v := .int (oj.2.2 : Int)) rfl ?_
        repeat infer_instance
        refine s_whn B (os.length - (j + 1)) (by omega) ⟨j + 1, n2 - oj.2.2, ?_, rfl, pj, rfl⟩
        rw [show ((n2 - oj.2.2 : Nat) : Int) = (n2 : Int) - (oj.2.2 : Int) by omega]
        rfl
      · have gt : ¬ oj.2.2 ≤ n2 := fun h => gt (Int.ofNat_le.mpr h)
        rw [if_neg gt] at pj
        obtain ⟨rfl, rfl⟩ := Prod.mk.inj (Option.some.inj pj)
        repeat infer_instance
        refine s_ixN B hx2 ?_
        repeat infer_instance
        refine s_gt3 (tA _ B) rfl ?_
        repeat infer_instance
        have B := B.sub ((List.sublist_append_right ..).trans (List.sublist_cons_self ..))
        refine s_tyH (B.get ap) ?_
        repeat infer_instance
        have hi := (List.getElem?_eq_some_iff.mp hb1).1
        refine s_append (xs := (nI as).map V.int) B (by rw [List.length_map, List.length_map, al2]; unfold sizeLine; omega) fun H B => ?_
        have e1 : (nI as).map V.int ++ [V.int (oj.1 : Int)] = (nI (as ++ [oj.1])).map V.int := by unfold nI; rw [List.map_append, List.map_append]; rfl
        rw [e1] at B
        refine s_inn B ⟨as ++ [oj.1], oj.2.1, n2, _, _, _, _, _, _, rfl, by rw [List.length_append, al2]; rfl, fun x hx => ?_, by omega, hr3, by rw [List.append_assoc]; exact hnth, rfl⟩
        rcases List.mem_append.mp hx with h | h
        · exact alt x h
        · rw [List.mem_singleton.mp h, osl]
          have := hid sl slm
          omega
    · rintro σ M H ⟨as, ρ, r, y8, y9, y10, y11, y12, y13, rfl, al2, alt, hρ, hr, hnth, rfl⟩ B
      rw [List.length_map, hqb] at al2 hnth
      rw [List.drop_of_length_le (by rw [List.length_map]; exact Nat.le_refl _)] at hnth
      have hnth : as = nthF ss (szs (cut ns)) (fullF ss) n := by rw [← hnth]; exact (List.append_nil as).symm
      repeat infer_instance
      refine s_lenH (AL _ (B.tail.sub subL)) ?_
      rw [List.length_map, List.length_map]
      repeat infer_instance
      refine u_spread B al2 alt hl (by rw [(good_cut ns).flat]; omega) fun p qs H B => ?_
      rw [hnth] at B
      exact q p qs H (B.sub (List.Sublist.cons₂ _ (subL.trans (List.sublist_cons_self ..))))
end
end My
namespace My
open PySem PySem.Spec PyProof.Rows L2 LamX
/-! what each queue still takes, as one number -/
def enc : Nat → List Nat → List Nat → Nat
  | w, l :: ls, r :: rs => r * w + enc (w * (l + 1)) ls rs
  | _, _, _ => 0
/-- no queue takes more than its length -/
def Fits : List Nat → List Nat → Prop
  | [], [] => True
  | r :: rs, l :: ls => r ≤ l ∧ Fits rs ls
  | _, _ => False
theorem Fits.len : ∀ {rs ls : List Nat}, Fits rs ls → rs.length = ls.length
  | [], [], _ => rfl
  | _ :: _, _ :: _, h => by rw [List.length_cons, List.length_cons, Fits.len h.2]
theorem Fits.self : ∀ ls : List Nat, Fits ls ls
  | [] => trivial
  | l :: ls => ⟨Nat.le_refl _, Fits.self ls⟩
theorem Fits.set : ∀ {rs ls : List Nat} {j r s : Nat}, Fits rs ls → rs[j]? = some r → s ≤ r → Fits (rs.set j s) ls
  | r0 :: rs, l :: ls, 0, r, s, h, e, hs => by
    cases Option.some.inj e
    exact ⟨Nat.le_trans hs h.1, h.2⟩
  | r0 :: rs, l :: ls, j + 1, r, s, h, e, hs => ⟨h.1, Fits.set (j := j) h.2 e hs⟩
theorem enc_dvd : ∀ (ls rs : List Nat) (w : Nat), ∃ c, enc w ls rs = w * c
  | [], rs, w => ⟨0, by unfold enc; rfl⟩
  | l :: ls, [], w => ⟨0, by unfold enc; rfl⟩
  | l :: ls, r :: rs, w => by
    obtain ⟨c, hc⟩ := enc_dvd ls rs (w * (l + 1))
    exact ⟨r + (l + 1) * c, by unfold enc; rw [hc, Nat.mul_add w r ((l + 1) * c), Nat.mul_comm w r, Nat.mul_assoc]⟩
theorem room_enc : ∀ (ls rs : List Nat) (i w base : Nat), base < w → Fits rs ls → ∀ sl ∈ slotsF i w ls, ∃ j r, sl.1 = i + j ∧ ls[j]? = some sl.2.2 ∧ rs[j]? = some r ∧ (base + enc w ls rs) / sl.2.1 % (sl.2.2 + 1) = r ∧ ∀ s, s ≤ r → base + enc w ls rs - s * sl.2.1 = base + enc w ls (rs.set j (r - s))
  | [], rs, i, w, base, hb, F, sl, h => nomatch h
  | l :: ls, [], i, w, base, hb, F, sl, h => F.elim
  | l :: ls, r :: rs, i, w, base, hb, F, sl, h => by
    have h : sl ∈ (if 0 < l then (i, w, l) :: slotsF (i + 1) (w * (l + 1)) ls else slotsF (i + 1) w ls) := h
    have hw : 0 < w := by omega
    have ee : ∀ r rs, enc w (l :: ls) (r :: rs) = r * w + enc (w * (l + 1)) ls rs := fun _ _ => rfl
    have hr := F.1
    have hbase : base + r * w < w * (l + 1) := by
      have h1 : r * w ≤ l * w := Nat.mul_le_mul_right w hr
      rw [Nat.mul_add, Nat.mul_one, Nat.mul_comm w l]
      omega
    have inner : sl ∈ slotsF (i + 1) (w * (l + 1)) ls → ∃ j r', sl.1 = i + j ∧ (l :: ls)[j]? = some sl.2.2 ∧ (r :: rs)[j]? = some r' ∧ (base + enc w (l :: ls) (r :: rs)) / sl.2.1 % (sl.2.2 + 1) = r' ∧ ∀ s, s ≤ r' → base + enc w (l :: ls) (r :: rs) - s * sl.2.1 = base + enc w (l :: ls) ((r :: rs).set j (r' - s)) := fun h => by
      obtain ⟨j, r', h1, h2, h3, h4, h5⟩ := room_enc ls rs (i + 1) (w * (l + 1)) (base + r * w) hbase F.2 sl h
      refine ⟨j + 1, r', by omega, h2, h3, ?_, fun s hs => ?_⟩
      · rw [ee, ← Nat.add_assoc]; exact h4
      · have h6 := h5 s hs
        rw [List.set_cons_succ, ee, ee, ← Nat.add_assoc, ← Nat.add_assoc]
        exact h6
    by_cases hl : 0 < l
    · rw [if_pos hl] at h
      rcases List.mem_cons.mp h with rfl | h
      · refine ⟨0, r, rfl, rfl, rfl, ?_, fun s hs => ?_⟩
        · obtain ⟨c, hc⟩ := enc_dvd ls rs (w * (l + 1))
          show (base + enc w (l :: ls) (r :: rs)) / w % (l + 1) = r
          rw [ee, hc]
          have e1 : base + (r * w + w * (l + 1) * c) = base + w * (r + (l + 1) * c) := by
            rw [Nat.mul_add w r ((l + 1) * c), Nat.mul_comm w r, Nat.mul_assoc]
          rw [e1, Nat.add_mul_div_left _ _ hw, Nat.div_eq_of_lt hb, Nat.zero_add, Nat.add_mul_mod_self_left, Nat.mod_eq_of_lt (by omega)]
        · show base + enc w (l :: ls) (r :: rs) - s * w = base + enc w (l :: ls) ((r - s) :: rs)
          rw [ee, ee, Nat.sub_mul]
          have : s * w ≤ r * w := Nat.mul_le_mul_right w hs
          omega
      · exact inner h
    · rw [if_neg hl] at h
      have l0 : l = 0 := by omega
      subst l0
      refine inner ?_
      rw [Nat.zero_add, Nat.mul_one]
      exact h
end My
namespace My
open PySem PySem.Spec PyProof.Rows L2 LamX
/-! all assignments that fill the queues, in their order -/
def asgL : List Nat → List Nat → List (List Nat)
  | [], rs => if rs.all (fun r => r == 0) = true then [[]] else []
  | s :: bs, rs => (List.range rs.length).flatMap fun j => if s ≤ rs.getD j 0 then (asgL bs (rs.set j (rs.getD j 0 - s))).map (j :: ·) else []
theorem enc_zero : ∀ (ls rs : List Nat) (w : Nat), 0 < w → Fits rs ls → (enc w ls rs = 0 ↔ rs.all (fun r => r == 0) = true)
  | [], [], w, hw, F => by simp [enc]
  | l :: ls, r :: rs, w, hw, F => by
    have ih := enc_zero ls rs (w * (l + 1)) (Nat.mul_pos hw (Nat.succ_pos l)) F.2
    have ee : enc w (l :: ls) (r :: rs) = r * w + enc (w * (l + 1)) ls rs := rfl
    rw [ee, List.all_cons, Bool.and_eq_true, ← ih]
    have hz : r * w = 0 ↔ (r == 0) = true := by
      rw [Nat.mul_eq_zero, beq_iff_eq]
      constructor
      · rintro (h | h)
        · exact h
        · omega
      · exact Or.inl
    rw [← hz]
    omega
theorem slots_pos : ∀ (ls : List Nat) (i w : Nat) (F : Nat → List (List Nat)), (∀ j, ls.getD j 0 = 0 → F (i + j) = []) → (List.range ls.length).flatMap (fun j => F (i + j)) = (slotsF i w ls).flatMap fun sl => F sl.1
  | [], i, w, F, h => rfl
  | l :: ls, i, w, F, h => by
    have ih : ∀ w', (List.range ls.length).flatMap (fun j => F (i + 1 + j)) = (slotsF (i + 1) w' ls).flatMap fun sl => F sl.1 := fun w' => slots_pos ls (i + 1) w' F fun j hj => by
      have := h (j + 1) hj
      rw [show i + 1 + j = i + (j + 1) by omega]; exact this
    rw [List.length_cons, List.range_succ_eq_map, List.flatMap_cons, List.flatMap_map]
    have e : (fun j => F (i + (j + 1))) = fun j => F (i + 1 + j) := by
      funext j
      rw [show i + 1 + j = i + (j + 1) by omega]
    show F (i + 0) ++ (List.range ls.length).flatMap (fun j => F (i + (j + 1))) = (if 0 < l then (i, w, l) :: slotsF (i + 1) (w * (l + 1)) ls else slotsF (i + 1) w ls).flatMap fun sl => F sl.1
    rw [e]
    by_cases hl : 0 < l
    · rw [if_pos hl, List.flatMap_cons, ih]
      rfl
    · rw [if_neg hl, ih, h 0 (show l = 0 by omega)]
      rfl
theorem pick_flat (g : Slot → List (List Nat)) (c : Slot → Bool) (o : Slot → Slot) : ∀ (sls : List Slot) (n : Nat) (o' : Slot) (r : Nat), (∀ sl ∈ sls, c sl = true → (o sl).2.2 = (g sl).length) → (∀ sl ∈ sls, c sl = false → g sl = []) → pickO ((sls.filter c).map o) n = some (o', r) → ∃ sl ∈ sls, c sl = true ∧ o' = o sl ∧ (sls.flatMap g)[n]? = (g sl)[r]?
  | [], n, o', r, _, _, h => by cases h
  | sl :: sls, n, o', r, h1, h2, h => by
    have ih := fun n h => pick_flat g c o sls n o' r (fun x hx => h1 x (List.mem_cons_of_mem _ hx)) (fun x hx => h2 x (List.mem_cons_of_mem _ hx)) h
    rw [List.flatMap_cons]
    cases hc : c sl with
    | false =>
      rw [List.filter_cons_of_neg (by rw [hc]; decide)] at h
      obtain ⟨s2, m2, k1, k2, k3⟩ := ih n h
      rw [h2 sl (List.mem_cons_self ..) hc, List.nil_append]
      exact ⟨s2, List.mem_cons_of_mem _ m2, k1, k2, k3⟩
    | true =>
      rw [List.filter_cons_of_pos hc, List.map_cons] at h
      unfold pickO at h
      have hl := h1 sl (List.mem_cons_self ..) hc
      by_cases le : (o sl).2.2 ≤ n
      · rw [if_pos le] at h
        obtain ⟨s2, m2, k1, k2, k3⟩ := ih _ h
        refine ⟨s2, List.mem_cons_of_mem _ m2, k1, k2, ?_⟩
        rw [List.getElem?_append_right (by omega), ← hl]
        exact k3
      · rw [if_neg le] at h
        obtain ⟨rfl, rfl⟩ := Prod.mk.inj (Option.some.inj h)
        exact ⟨sl, List.mem_cons_self .., hc, rfl, List.getElem?_append_left (by omega)⟩
theorem fmap_len (g : Slot → List (List Nat)) (sls : List Slot) : (sls.flatMap g).length = (sls.map fun sl => (g sl).length).sum := by
  rw [List.flatMap_def, List.length_flatten, List.map_map]; rfl
theorem fits_getD {rs ls : List Nat} (F : Fits rs ls) (j : Nat) (h : ls.getD j 0 = 0) : rs.getD j 0 = 0 := by
  induction rs generalizing ls j with
  | nil => simp
  | cons r rs ih =>
    cases ls with
    | nil => exact F.elim
    | cons l ls =>
      cases j with
      | zero =>
        have h0 : l = 0 := h
        have := F.1
        show r = 0
        omega
      | succ j => exact ih F.2 j h
theorem ways_asg {ls : List Nat} : ∀ (bs : List Nat) (rs : List Nat), Fits rs ls → (∀ s ∈ bs, 0 < s) → waysF (slotsF 0 1 ls) bs (enc 1 ls rs) = (asgL bs rs).length ∧ ∀ n, n < (asgL bs rs).length → (asgL bs rs)[n]? = some (nthF (slotsF 0 1 ls) bs (enc 1 ls rs) n)
  | [], rs, F, _ => by
    have z := enc_zero ls rs 1 Nat.one_pos F
    show (if enc 1 ls rs = 0 then 1 else 0) = (if rs.all (fun r => r == 0) = true then [[]] else [] : List (List Nat)).length ∧ ∀ n, n < (if rs.all (fun r => r == 0) = true then [[]] else [] : List (List Nat)).length → (if rs.all (fun r => r == 0) = true then [[]] else [] : List (List Nat))[n]? = some []
    by_cases c : rs.all (fun r => r == 0) = true
    · rw [if_pos (z.mpr c), if_pos c]
      refine ⟨rfl, fun n hn => ?_⟩
      have hn0 : n = 0 := by simpa using hn
      subst hn0
      rfl
    · rw [if_neg (fun h => c (z.mp h)), if_neg c]
      exact ⟨rfl, fun n hn => absurd hn (Nat.not_lt_zero _)⟩
  | s :: bs, rs, F, hs => by
    have s0 := hs s (List.mem_cons_self ..)
    have ih := fun rs F => ways_asg (ls := ls) bs rs F fun x hx => hs x (List.mem_cons_of_mem _ hx)
    have S := slots_ok ls 0 1 Nat.one_pos
    have R := room_enc ls rs 0 1 0 Nat.one_pos F
    simp only [Nat.zero_add] at R
    let G : Nat → List (List Nat) := fun j => if s ≤ rs.getD j 0 then (asgL bs (rs.set j (rs.getD j 0 - s))).map (j :: ·) else []
    have eA : asgL (s :: bs) rs = (slotsF 0 1 ls).flatMap fun sl => G sl.1 := by
      have h := slots_pos ls 0 1 G fun j hj => by
        show (if s ≤ rs.getD (0 + j) 0 then _ else []) = []
        rw [Nat.zero_add, fits_getD F j hj, if_neg (by omega)]
      simp only [Nat.zero_add] at h
      rw [← h, ← F.len]
      rfl
    have cond : ∀ sl ∈ slotsF 0 1 ls, (s ≤ enc 1 ls rs / sl.2.1 % (sl.2.2 + 1) → s * sl.2.1 ≤ enc 1 ls rs ∧ waysF (slotsF 0 1 ls) bs (enc 1 ls rs - s * sl.2.1) = (G sl.1).length ∧ ∀ r, r < (G sl.1).length → (G sl.1)[r]? = some (sl.1 :: nthF (slotsF 0 1 ls) bs (enc 1 ls rs - s * sl.2.1) r)) ∧ (¬ s ≤ enc 1 ls rs / sl.2.1 % (sl.2.2 + 1) → G sl.1 = []) := fun sl hm => by
      obtain ⟨j, r, h1, h2, h3, h4, h5⟩ := R sl hm
      have hd : rs.getD sl.1 0 = r := by rw [h1, List.getD_eq_getElem?_getD, h3]; rfl
      rw [h4]
      refine ⟨fun le => ?_, fun gt => ?_⟩
      · have eG : G sl.1 = (asgL bs (rs.set j (r - s))).map (sl.1 :: ·) := by
          show (if s ≤ rs.getD sl.1 0 then (asgL bs (rs.set sl.1 (rs.getD sl.1 0 - s))).map (sl.1 :: ·) else []) = _
          rw [hd, if_pos le, h1]
        obtain ⟨i1, i2⟩ := ih (rs.set j (r - s)) (F.set h3 (by omega))
        refine ⟨room_le (S.pos sl hm) (by rw [h4]; exact le), ?_, fun n hn => ?_⟩
        · rw [h5 s le, i1, eG, List.length_map]
        · rw [eG, List.length_map] at hn
          rw [eG, h5 s le, List.getElem?_map, i2 n hn]; rfl
      · show (if s ≤ rs.getD sl.1 0 then _ else []) = []
        rw [hd, if_neg gt]
    have eW : waysF (slotsF 0 1 ls) (s :: bs) (enc 1 ls rs) = (asgL (s :: bs) rs).length := by
      rw [eA, fmap_len]
      show stepF (slotsF 0 1 ls) s (waysF (slotsF 0 1 ls) bs) (enc 1 ls rs) = _
      unfold stepF
      congr 1
      refine List.map_congr_left fun sl hm => ?_
      obtain ⟨c1, c2⟩ := cond sl hm
      by_cases le : s ≤ enc 1 ls rs / sl.2.1 % (sl.2.2 + 1)
      · obtain ⟨k1, k2, _⟩ := c1 le
        rw [if_pos ⟨k1, decide_eq_true ((room_ok (S.pos sl hm) k1).mpr le)⟩, k2]
      · rw [c2 le]
        exact if_neg fun z => le ((room_ok (S.pos sl hm) z.1).mp (of_decide_eq_true z.2))
    refine ⟨eW, fun n hn => ?_⟩
    rw [← eW] at hn
    obtain ⟨o, r, h1, h2, h3, h4, h5⟩ := nthF_cons S hn
    rw [h5]
    obtain ⟨sl, m, k1, k2, k3⟩ := pick_flat (fun sl => G sl.1) (fun sl => decide (s ≤ enc 1 ls rs / sl.2.1 % (sl.2.2 + 1)) && decide (waysF (slotsF 0 1 ls) bs (enc 1 ls rs - s * sl.2.1) ≠ 0)) (fun sl => (sl.1, enc 1 ls rs - s * sl.2.1, waysF (slotsF 0 1 ls) bs (enc 1 ls rs - s * sl.2.1))) (slotsF 0 1 ls) n o r (fun sl hm hc => by
        have hc1 := of_decide_eq_true ((Bool.and_eq_true _ _).mp hc).1
        exact ((cond sl hm).1 hc1).2.1) (fun sl hm hc => by
        by_cases le : s ≤ enc 1 ls rs / sl.2.1 % (sl.2.2 + 1)
        · have hz : waysF (slotsF 0 1 ls) bs (enc 1 ls rs - s * sl.2.1) = 0 := by
            refine Classical.byContradiction fun z => ?_
            rw [decide_eq_true le, decide_eq_true z] at hc
            cases hc
          have h := ((cond sl hm).1 le).2.1
          rw [hz] at h
          exact List.length_eq_zero_iff.mp h.symm
        · exact (cond sl hm).2 le) h1
    rw [eA, k3]
    have k1 := of_decide_eq_true ((Bool.and_eq_true _ _).mp k1).1
    obtain ⟨q1, q2, q3⟩ := (cond sl m).1 k1
    rw [k2] at h4 ⊢
    exact q3 r (by rw [← q2]; exact h4)
end My
namespace My
open PySem PySem.Spec PyProof.Rows L2 LamX
theorem full_enc : ∀ (ls : List Nat) (i w : Nat), fullF (slotsF i w ls) = enc w ls ls
  | [], i, w => rfl
  | l :: ls, i, w => by
    have ee : enc w (l :: ls) (l :: ls) = l * w + enc (w * (l + 1)) ls ls := rfl
    show fullF (if 0 < l then (i, w, l) :: slotsF (i + 1) (w * (l + 1)) ls else slotsF (i + 1) w ls) = _
    rw [ee]
    by_cases hl : 0 < l
    · rw [if_pos hl, ← full_enc ls (i + 1) (w * (l + 1)), Nat.mul_comm l w]
      unfold fullF
      rw [List.map_cons, List.sum_cons]
    · rw [if_neg hl, full_enc ls (i + 1) w]
      have l0 : l = 0 := by omega
      subst l0
      rw [Nat.zero_mul, Nat.zero_add, Nat.zero_add, Nat.mul_one]
/-- all assignments of the blocks with these lengths, in order -/
def allA (ns : List Int) (ls : List Nat) : List (List Nat) := asgL (szs (cut ns)) ls
theorem cnt_allA (ns : List Int) (ls : List Nat) (h : ∀ s ∈ szs (cut ns), 0 < s) : cntF ns ls = (allA ns ls).length := by
  unfold cntF
  rw [full_enc]
  exact (ways_asg _ _ (Fits.self ls) h).1
theorem nth_allA (ns : List Int) (ls : List Nat) (h : ∀ s ∈ szs (cut ns), 0 < s) {n : Nat} (hn : n < (allA ns ls).length) : (allA ns ls)[n]? = some (nthA ns ls n) := by
  unfold nthA
  rw [full_enc]
  exact (ways_asg _ _ (Fits.self ls) h).2 n hn
/-- how much a queue gets -/
def load (j : Nat) : List Nat → List Nat → Nat
  | a :: as, s :: bs => (if a = j then s else 0) + load j as bs
  | _, _ => 0
theorem all_zero {rs : List Nat} : rs.all (fun r => r == 0) = true ↔ ∀ j, rs.getD j 0 = 0 := by
  rw [List.all_eq_true]
  constructor
  · intro h j
    rw [List.getD_eq_getElem?_getD]
    cases e : rs[j]? with
    | none => rfl
    | some r => exact beq_iff_eq.mp (h r (List.mem_of_getElem? e))
  · intro h r hr
    obtain ⟨j, hj⟩ := List.mem_iff_getElem?.mp hr
    have := h j
    rw [List.getD_eq_getElem?_getD, hj] at this
    exact beq_iff_eq.mpr this
theorem set_getD {rs : List Nat} {j i x : Nat} (h : j < rs.length) : (rs.set j x).getD i 0 = if i = j then x else rs.getD i 0 := by
  rw [List.getD_eq_getElem?_getD, List.getD_eq_getElem?_getD, List.getElem?_set]
  by_cases e : j = i
  · subst e
    rw [if_pos rfl, if_pos rfl, if_pos h]; rfl
  · rw [if_neg e, if_neg (fun z => e z.symm)]
theorem mem_asgL : ∀ (bs rs as : List Nat), as ∈ asgL bs rs ↔ as.length = bs.length ∧ (∀ a ∈ as, a < rs.length) ∧ ∀ j, load j as bs = rs.getD j 0
  | [], rs, as => by
    show as ∈ (if rs.all (fun r => r == 0) = true then [[]] else [] : List (List Nat)) ↔ _
    by_cases c : rs.all (fun r => r == 0) = true
    · rw [if_pos c, List.mem_singleton]
      constructor
      · rintro rfl
        exact ⟨rfl, (fun _ h => nomatch h), fun j => (all_zero.mp c j).symm⟩
      · intro h
        exact List.length_eq_zero_iff.mp h.1
    · rw [if_neg c]
      constructor
      · intro h; cases h
      · rintro ⟨h1, _, h3⟩
        have e : as = [] := List.length_eq_zero_iff.mp h1
        subst e
        exact absurd (all_zero.mpr fun j => (h3 j).symm) c
  | s :: bs, rs, as => by
    show as ∈ (List.range rs.length).flatMap (fun j => if s ≤ rs.getD j 0 then (asgL bs (rs.set j (rs.getD j 0 - s))).map (j :: ·) else []) ↔ _
    rw [List.mem_flatMap]
    constructor
    · rintro ⟨j, hj, hm⟩
      have hj := List.mem_range.mp hj
      by_cases c : s ≤ rs.getD j 0
      · rw [if_pos c] at hm
        obtain ⟨as', h1, rfl⟩ := List.mem_map.mp hm
        obtain ⟨h2, h3, h4⟩ := (mem_asgL bs _ as').mp h1
        rw [List.length_set] at h3
        refine ⟨by rw [List.length_cons, List.length_cons, h2], fun a ha => ?_, fun i => ?_⟩
        · rcases List.mem_cons.mp ha with rfl | ha
          · exact hj
          · exact h3 a ha
        · have h5 := h4 i
          rw [set_getD hj] at h5
          show (if j = i then s else 0) + load i as' bs = _
          rw [h5]
          by_cases e : i = j
          · subst e
            rw [if_pos rfl, if_pos rfl]; omega
          · rw [if_neg e, if_neg (fun z => e z.symm), Nat.zero_add]
      · rw [if_neg c] at hm; cases hm
    · rintro ⟨h1, h2, h3⟩
      cases as with
      | nil => cases h1
      | cons j as' =>
        have hj := h2 j (List.mem_cons_self ..)
        have hs : s ≤ rs.getD j 0 := by
          have h4 : (if j = j then s else 0) + load j as' bs = _ := h3 j
          rw [if_pos rfl] at h4
          omega
        refine ⟨j, List.mem_range.mpr hj, ?_⟩
        rw [if_pos hs]
        refine List.mem_map.mpr ⟨as', (mem_asgL bs _ as').mpr ⟨Nat.succ.inj h1, fun a ha => by rw [List.length_set]; exact h2 a (List.mem_cons_of_mem _ ha), fun i => ?_⟩, rfl⟩
        rw [set_getD hj]
        have h4 : (if j = i then s else 0) + load i as' bs = _ := h3 i
        by_cases e : i = j
        · subst e
          rw [if_pos rfl] at h4 ⊢
          omega
        · rw [if_neg (fun z => e z.symm), Nat.zero_add] at h4
          rw [if_neg e]
          exact h4
end My
namespace My
open PySem PySem.Spec PyProof.Rows L2 LamX
theorem flm_congr {α β : Type} {f g : α → List β} : ∀ {l : List α}, (∀ x ∈ l, f x = g x) → l.flatMap f = l.flatMap g
  | [], _ => rfl
  | x :: l, h => by rw [List.flatMap_cons, List.flatMap_cons, h x (List.mem_cons_self ..), flm_congr fun y hy => h y (List.mem_cons_of_mem _ hy)]
def cntL (bs rs : List Nat) : Nat := (asgL bs rs).length
theorem flm_len {α : Type} (g : Nat → List α) (xs : List Nat) : (xs.flatMap g).length = (xs.map fun x => (g x).length).sum := by
  rw [List.flatMap_def, List.length_flatten, List.map_map]; rfl
theorem cntL_cons (s : Nat) (bs rs : List Nat) : cntL (s :: bs) rs = ((List.range rs.length).map fun j => if s ≤ rs.getD j 0 then cntL bs (rs.set j (rs.getD j 0 - s)) else 0).sum := by
  unfold cntL
  show ((List.range rs.length).flatMap fun j => if s ≤ rs.getD j 0 then (asgL bs (rs.set j (rs.getD j 0 - s))).map (j :: ·) else []).length = _
  rw [flm_len]
  congr 1
  refine List.map_congr_left fun j _ => ?_
  by_cases c : s ≤ rs.getD j 0
  · rw [if_pos c, if_pos c, List.length_map]
  · rw [if_neg c, if_neg c]; rfl
theorem rsum_last (F : Nat → Nat) (n : Nat) : ((List.range (n + 1)).map F).sum = ((List.range n).map F).sum + F n := by
  rw [List.range_succ, List.map_append, List.sum_append]; simp
theorem rsum_first (F : Nat → Nat) (n : Nat) : ((List.range (n + 1)).map F).sum = ((List.range n).map fun j => F (j + 1)).sum + F 0 := by
  rw [List.range_succ_eq_map, List.map_cons, List.sum_cons, List.map_map, Nat.add_comm]; rfl
/-- the lengths turned by one -/
theorem cntL_turn : ∀ (bs : List Nat) (r : Nat) (rs : List Nat), cntL bs (rs ++ [r]) = cntL bs (r :: rs)
  | [], r, rs => by
    show (if (rs ++ [r]).all (fun r => r == 0) = true then [[]] else [] : List (List Nat)).length = (if (r :: rs).all (fun r => r == 0) = true then [[]] else [] : List (List Nat)).length
    rw [List.all_append, List.all_cons, List.all_cons, List.all_nil, Bool.and_true, Bool.and_comm]
  | s :: bs, r, rs => by
    have ih := cntL_turn bs
    rw [cntL_cons, cntL_cons, List.length_append, List.length_cons, List.length_nil, rsum_last, List.length_cons, rsum_first]
    have g1 : (rs ++ [r]).getD rs.length 0 = r := by simp
    have s1 : ∀ x, (rs ++ [r]).set rs.length x = rs ++ [x] := fun x => by simp
    congr 1
    · congr 1
      refine List.map_congr_left fun j hj => ?_
      have hj := List.mem_range.mp hj
      have g2 : (rs ++ [r]).getD j 0 = rs.getD j 0 := by
        rw [List.getD_eq_getElem?_getD, List.getD_eq_getElem?_getD, List.getElem?_append_left hj]
      show (if s ≤ (rs ++ [r]).getD j 0 then cntL bs ((rs ++ [r]).set j ((rs ++ [r]).getD j 0 - s)) else 0) = if s ≤ rs.getD j 0 then cntL bs (r :: rs.set j (rs.getD j 0 - s)) else 0
      rw [g2, List.set_append_left _ _ hj, ih]
    · show (if s ≤ (rs ++ [r]).getD rs.length 0 then cntL bs ((rs ++ [r]).set rs.length ((rs ++ [r]).getD rs.length 0 - s)) else 0) = if s ≤ r then cntL bs ((r - s) :: rs) else 0
      rw [g1, s1, ih]
/-- one queue more that takes nothing -/
theorem asgL_zero : ∀ (bs rs : List Nat), (∀ s ∈ bs, 0 < s) → asgL bs (rs ++ [0]) = asgL bs rs
  | [], rs, _ => by
    show (if (rs ++ [0]).all (fun r => r == 0) = true then [[]] else [] : List (List Nat)) = (if rs.all (fun r => r == 0) = true then [[]] else [] : List (List Nat))
    rw [List.all_append]
    simp
  | s :: bs, rs, h => by
    have hs := h s (List.mem_cons_self ..)
    have ih := fun rs => asgL_zero bs rs fun x hx => h x (List.mem_cons_of_mem _ hx)
    show ((List.range (rs ++ [0]).length).flatMap fun j => if s ≤ (rs ++ [0]).getD j 0 then (asgL bs ((rs ++ [0]).set j ((rs ++ [0]).getD j 0 - s))).map (j :: ·) else []) = (List.range rs.length).flatMap fun j => if s ≤ rs.getD j 0 then (asgL bs (rs.set j (rs.getD j 0 - s))).map (j :: ·) else []
    rw [List.length_append, List.length_cons, List.length_nil, List.range_succ, List.flatMap_append]
    have g1 : (rs ++ [0]).getD rs.length 0 = 0 := by simp
    have e1 : ([rs.length].flatMap fun j => if s ≤ (rs ++ [0]).getD j 0 then (asgL bs ((rs ++ [0]).set j ((rs ++ [0]).getD j 0 - s))).map (j :: ·) else []) = ([] : List (List Nat)) := by
      rw [List.flatMap_cons, List.flatMap_nil, List.append_nil, g1, if_neg (by omega)]
    rw [e1, List.append_nil]
    refine flm_congr fun j hj => ?_
    have hj := List.mem_range.mp hj
    have g2 : (rs ++ [0]).getD j 0 = rs.getD j 0 := by
      rw [List.getD_eq_getElem?_getD, List.getD_eq_getElem?_getD, List.getElem?_append_left hj]
    rw [g2, List.set_append_left _ _ hj, ih]
/-- two steps in either order -/
theorem cntL_swap (s t : Nat) (bs : List Nat) (rs : List Nat) : cntL (s :: t :: bs) rs = cntL (t :: s :: bs) rs := by
  have e : ∀ s t, cntL (s :: t :: bs) rs = ((List.range rs.length).map fun j => ((List.range rs.length).map fun i => if s ≤ rs.getD j 0 ∧ t ≤ (rs.set j (rs.getD j 0 - s)).getD i 0 then cntL bs ((rs.set j (rs.getD j 0 - s)).set i ((rs.set j (rs.getD j 0 - s)).getD i 0 - t)) else 0).sum).sum := fun s t => by
    rw [cntL_cons]
    congr 1
    refine List.map_congr_left fun j _ => ?_
    by_cases c : s ≤ rs.getD j 0
    · rw [if_pos c, cntL_cons, List.length_set]
      congr 1
      refine List.map_congr_left fun i _ => ?_
      by_cases d : t ≤ (rs.set j (rs.getD j 0 - s)).getD i 0
      · rw [if_pos d, if_pos ⟨c, d⟩]
      · rw [if_neg d, if_neg fun z => d z.2]
    · rw [if_neg c]
      exact (sum_zero fun i _ => if_neg fun z => c z.1).symm
  have sw : ∀ (n m : Nat) (F : Nat → Nat → Nat), ((List.range n).map fun j => ((List.range m).map fun i => F j i).sum).sum = ((List.range m).map fun i => ((List.range n).map fun j => F j i).sum).sum := fun n m F => by
    induction n with
    | zero => exact (sum_zero fun i _ => rfl).symm
    | succ n ih =>
      rw [List.range_succ, List.map_append, List.sum_append, ih]
      simp only [List.map_append, List.sum_append]
      rw [sum_add]
      simp
  rw [e s t, e t s, sw]
  congr 1
  refine List.map_congr_left fun i hi => ?_
  congr 1
  refine List.map_congr_left fun j hj => ?_
  have hi := List.mem_range.mp hi
  have hj := List.mem_range.mp hj
  rw [set_getD hj, set_getD hi]
  by_cases ij : i = j
  · subst ij
    rw [if_pos rfl, if_pos rfl, List.set_set, List.set_set]
    have e1 : (s ≤ rs.getD i 0 ∧ t ≤ rs.getD i 0 - s) ↔ (t ≤ rs.getD i 0 ∧ s ≤ rs.getD i 0 - t) := by omega
    have e2 : rs.getD i 0 - s - t = rs.getD i 0 - t - s := by omega
    rw [e2]
    by_cases c : s ≤ rs.getD i 0 ∧ t ≤ rs.getD i 0 - s
    · rw [if_pos c, if_pos (e1.mp c)]
    · rw [if_neg c, if_neg fun z => c (e1.mpr z)]
  · rw [if_neg ij, if_neg (show ¬ j = i from fun z => ij z.symm), List.set_comm _ _ (show j ≠ i from fun z => ij z.symm)]
    by_cases c : s ≤ rs.getD j 0 ∧ t ≤ rs.getD i 0
    · rw [if_pos c, if_pos ⟨c.2, c.1⟩]
    · rw [if_neg c, if_neg fun z => c ⟨z.2, z.1⟩]
/-- the last block first -/
theorem cntL_last (t : Nat) : ∀ (bs rs : List Nat), cntL (bs ++ [t]) rs = cntL (t :: bs) rs
  | [], rs => rfl
  | s :: bs, rs => by
    rw [← cntL_swap s t bs rs]
    show cntL (s :: (bs ++ [t])) rs = _
    rw [cntL_cons, cntL_cons]
    congr 1
    refine List.map_congr_left fun j _ => ?_
    rw [cntL_last t bs]
end My
namespace My
open PySem PySem.Spec PyProof.Rows L2 LamX
/-- a is before b, lists of queues -/
theorem lexL_irrefl : ∀ a : List Int, lexL a a = false
  | [] => rfl
  | x :: a => by show (if x = x then lexL a a else decide (x < x)) = false; rw [if_pos rfl]; exact lexL_irrefl a
theorem lexL_trans : ∀ a b c : List Int, lexL a b = true → lexL b c = true → lexL a c = true
  | [], [], c, h, _ => by cases h
  | [], y :: b, [], _, h => by cases h
  | [], y :: b, z :: c, _, _ => rfl
  | x :: a, [], c, h, _ => by cases h
  | x :: a, y :: b, [], _, h => by cases h
  | x :: a, y :: b, z :: c, h1, h2 => by
    have h1 : (if x = y then lexL a b else decide (x < y)) = true := h1
    have h2 : (if y = z then lexL b c else decide (y < z)) = true := h2
    show (if x = z then lexL a c else decide (x < z)) = true
    by_cases e : x = y
    · subst e
      rw [if_pos rfl] at h1
      by_cases f : x = z
      · subst f
        rw [if_pos rfl] at h2 ⊢
        exact lexL_trans a b c h1 h2
      · rw [if_neg f] at h2 ⊢
        exact h2
    · rw [if_neg e] at h1
      have l1 := of_decide_eq_true h1
      by_cases f : y = z
      · subst f
        rw [if_neg e]
        exact h1
      · rw [if_neg f] at h2
        have l2 := of_decide_eq_true h2
        rw [if_neg (by omega)]
        exact decide_eq_true (by omega)
/-- the assignments stand in ascending order -/
theorem asgL_asc : ∀ (bs rs : List Nat), (asgL bs rs).Pairwise fun a b => lexL (nI a) (nI b) = true
  | [], rs => by
    show (if rs.all (fun r => r == 0) = true then [[]] else [] : List (List Nat)).Pairwise _
    split <;> simp
  | s :: bs, rs => by
    show ((List.range rs.length).flatMap fun j => if s ≤ rs.getD j 0 then (asgL bs (rs.set j (rs.getD j 0 - s))).map (j :: ·) else []).Pairwise _
    have first : ∀ j a, a ∈ (if s ≤ rs.getD j 0 then (asgL bs (rs.set j (rs.getD j 0 - s))).map (j :: ·) else [] : List (List Nat)) → ∃ a', a = j :: a' := fun j a h => by
      split at h
      · obtain ⟨a', _, rfl⟩ := List.mem_map.mp h
        exact ⟨a', rfl⟩
      · cases h
    rw [List.flatMap_def, List.pairwise_flatten]
    constructor
    · intro l hl
      obtain ⟨j, _, rfl⟩ := List.mem_map.mp hl
      show (if s ≤ rs.getD j 0 then (asgL bs (rs.set j (rs.getD j 0 - s))).map (j :: ·) else [] : List (List Nat)).Pairwise _
      split
      · rw [List.pairwise_map]
        refine (asgL_asc bs _).imp fun {a b} h => ?_
        show (if (j : Int) = (j : Int) then lexL (nI a) (nI b) else decide ((j : Int) < (j : Int))) = true
        rw [if_pos rfl]; exact h
      · exact List.Pairwise.nil
    · rw [List.pairwise_map]
      refine List.pairwise_lt_range.imp fun {i j} hij a ha b hb => ?_
      obtain ⟨a', rfl⟩ := first i a ha
      obtain ⟨b', rfl⟩ := first j b hb
      show (if (i : Int) = (j : Int) then lexL (nI a') (nI b') else decide ((i : Int) < (j : Int))) = true
      rw [if_neg (by omega)]
      exact decide_eq_true (by omega)
theorem asgL_at {bs rs : List Nat} {i j : Nat} {a b : List Nat} (h1 : (asgL bs rs)[i]? = some a) (h2 : (asgL bs rs)[j]? = some b) : lexL (nI a) (nI b) = decide (i < j) := by
  have P := asgL_asc bs rs
  obtain ⟨l1, e1⟩ := List.getElem?_eq_some_iff.mp h1
  obtain ⟨l2, e2⟩ := List.getElem?_eq_some_iff.mp h2
  rcases Nat.lt_trichotomy i j with h | h | h
  · rw [decide_eq_true h, ← e1, ← e2]
    exact List.pairwise_iff_getElem.mp P i j l1 l2 h
  · subst h
    rw [h1] at h2
    cases Option.some.inj h2
    rw [lexL_irrefl, decide_eq_false (Nat.lt_irrefl _)]
  · have hb := List.pairwise_iff_getElem.mp P j i l2 l1 h
    rw [e1, e2] at hb
    rw [decide_eq_false (by omega)]
    cases c : lexL (nI a) (nI b) with
    | false => rfl
    | true =>
      have := lexL_trans _ _ _ c hb
      rw [lexL_irrefl] at this
      exact this.symm
end My
namespace My
open PySem PySem.Spec PyProof.Rows L2 LamX
/-! all assignments of n blocks to k queues, in ascending order -/
def allC (k : Nat) : Nat → List (List Nat)
  | 0 => [[]]
  | n + 1 => (allC k n).flatMap fun row => (List.range k).map fun q => row ++ [q]
theorem lexL_app : ∀ (a b x y : List Int), a.length = b.length → lexL a b = true → lexL (a ++ x) (b ++ y) = true
  | [], [], x, y, _, h => by cases h
  | [], _ :: _, _, _, l, _ => by cases l
  | _ :: _, [], _, _, l, _ => by cases l
  | u :: a, v :: b, x, y, l, h => by
    have h : (if u = v then lexL a b else decide (u < v)) = true := h
    show (if u = v then lexL (a ++ x) (b ++ y) else decide (u < v)) = true
    by_cases e : u = v
    · rw [if_pos e] at h ⊢
      exact lexL_app a b x y (Nat.succ.inj l) h
    · rw [if_neg e] at h ⊢; exact h
theorem lexL_same : ∀ (a x y : List Int), lexL (a ++ x) (a ++ y) = lexL x y
  | [], x, y => rfl
  | u :: a, x, y => by
    show (if u = u then lexL (a ++ x) (a ++ y) else decide (u < u)) = lexL x y
    rw [if_pos rfl, lexL_same]
theorem allC_mem (k : Nat) : ∀ (n : Nat) (as : List Nat), as ∈ allC k n ↔ as.length = n ∧ ∀ a ∈ as, a < k
  | 0, as => by
    show as ∈ [[]] ↔ _
    rw [List.mem_singleton, List.length_eq_zero_iff]
    exact ⟨fun h => ⟨h, by rw [h]; exact fun _ z => nomatch z⟩, fun h => h.1⟩
  | n + 1, as => by
    show as ∈ (allC k n).flatMap _ ↔ _
    rw [List.mem_flatMap]
    constructor
    · rintro ⟨row, hr, h⟩
      obtain ⟨q, hq, rfl⟩ := List.mem_map.mp h
      obtain ⟨h1, h2⟩ := (allC_mem k n row).mp hr
      refine ⟨by rw [List.length_append, h1]; rfl, fun a ha => ?_⟩
      rcases List.mem_append.mp ha with z | z
      · exact h2 a z
      · rw [List.mem_singleton.mp z]; exact List.mem_range.mp hq
    · rintro ⟨h1, h2⟩
      have hne : as ≠ [] := fun z => by rw [z] at h1; cases h1
      refine ⟨as.dropLast, (allC_mem k n _).mpr ⟨by rw [List.length_dropLast, h1]; rfl, fun a ha => h2 a ((List.dropLast_sublist _).mem ha)⟩, ?_⟩
      exact List.mem_map.mpr ⟨as.getLast hne, List.mem_range.mpr (h2 _ (List.getLast_mem hne)), List.dropLast_concat_getLast hne⟩
theorem allC_asc (k : Nat) : ∀ n, (allC k n).Pairwise fun a b => lexL (nI a) (nI b) = true
  | 0 => List.pairwise_singleton ..
  | n + 1 => by
    show ((allC k n).flatMap _).Pairwise _
    rw [List.flatMap_def, List.pairwise_flatten]
    constructor
    · intro l hl
      obtain ⟨row, _, rfl⟩ := List.mem_map.mp hl
      rw [List.pairwise_map]
      refine List.pairwise_lt_range.imp fun {i j} hij => ?_
      unfold nI
      rw [List.map_append, List.map_append, lexL_same]
      show (if (i : Int) = (j : Int) then lexL [] [] else decide ((i : Int) < (j : Int))) = true
      rw [if_neg (by omega)]
      exact decide_eq_true (by omega)
    · rw [List.pairwise_map]
      refine (allC_asc k n).imp_of_mem fun {a b} ha hb h x hx y hy => ?_
      obtain ⟨i, _, rfl⟩ := List.mem_map.mp hx
      obtain ⟨j, _, rfl⟩ := List.mem_map.mp hy
      unfold nI at h ⊢
      rw [List.map_append, List.map_append]
      exact lexL_app _ _ _ _ (by rw [List.length_map, List.length_map, ((allC_mem k n a).mp ha).1, ((allC_mem k n b).mp hb).1]) h
theorem allC_len (k : Nat) : ∀ n, (allC k n).length = k ^ n
  | 0 => rfl
  | n + 1 => by
    show ((allC k n).flatMap _).length = _
    rw [List.flatMap_def, List.length_flatten, List.map_map]
    have e : (List.length ∘ fun row : List Nat => (List.range k).map fun q => row ++ [q]) = fun _ => k := by
      funext r; show ((List.range k).map _).length = k; rw [List.length_map, List.length_range]
    rw [e, List.map_const', List.sum_replicate_nat, allC_len k n, Nat.pow_succ]
theorem asc_same : ∀ {l m : List (List Nat)}, l.Pairwise (fun a b => lexL (nI a) (nI b) = true) → m.Pairwise (fun a b => lexL (nI a) (nI b) = true) → (∀ a, a ∈ l ↔ a ∈ m) → l = m
  | [], [], _, _, _ => rfl
  | [], b :: m, _, _, h => absurd ((h b).mpr (List.mem_cons_self ..)) (fun z => nomatch z)
  | a :: l, [], _, _, h => absurd ((h a).mp (List.mem_cons_self ..)) (fun z => nomatch z)
  | a :: l, b :: m, p, q, h => by
    obtain ⟨p1, p2⟩ := List.pairwise_cons.mp p
    obtain ⟨q1, q2⟩ := List.pairwise_cons.mp q
    have irr : ∀ x : List Nat, lexL (nI x) (nI x) = true → False := fun x z => by rw [lexL_irrefl] at z; cases z
    have e : a = b := by
      rcases List.mem_cons.mp ((h a).mp (List.mem_cons_self ..)) with z | z
      · exact z
      rcases List.mem_cons.mp ((h b).mpr (List.mem_cons_self ..)) with y | y
      · exact y.symm
      exact absurd (lexL_trans _ _ _ (q1 a z) (p1 b y)) (irr b)
    subst e
    rw [asc_same p2 q2 fun x => ?_]
    constructor
    · intro hx
      rcases List.mem_cons.mp ((h x).mp (List.mem_cons_of_mem _ hx)) with z | z
      · subst z; exact absurd (p1 x hx) (irr x)
      · exact z
    · intro hx
      rcases List.mem_cons.mp ((h x).mpr (List.mem_cons_of_mem _ hx)) with z | z
      · subst z; exact absurd (q1 x hx) (irr x)
      · exact z
theorem load_none {j : Nat} : ∀ {as bs : List Nat}, (∀ a ∈ as, a ≠ j) → load j as bs = 0
  | [], bs, _ => by cases bs <;> rfl
  | a :: as, [], _ => rfl
  | a :: as, b :: bs, h => by
    show (if a = j then b else 0) + load j as bs = 0
    rw [if_neg (h a (List.mem_cons_self ..)), load_none fun x hx => h x (List.mem_cons_of_mem _ hx)]
/-- those with the lengths asked for -/
theorem fil_asgL {k : Nat} {bs rs : List Nat} (h : rs.length = k) : (allC k bs.length).filter (fun as => decide ((List.range k).map (fun j => load j as bs) = rs)) = asgL bs rs := by
  refine asc_same ((allC_asc k _).filter _) (asgL_asc bs rs) fun as => ?_
  rw [List.mem_filter, allC_mem, mem_asgL, decide_eq_true_iff]
  constructor
  · rintro ⟨⟨h1, h2⟩, h3⟩
    refine ⟨h1, fun a ha => by rw [h]; exact h2 a ha, fun j => ?_⟩
    rw [← h3, List.getD_eq_getElem?_getD, List.getElem?_map]
    by_cases hj : j < k
    · rw [List.getElem?_range hj]; rfl
    · rw [List.getElem?_eq_none (by rw [List.length_range]; omega)]
      exact load_none fun a ha e => hj (e ▸ h2 a ha)
  · rintro ⟨h1, h2, h3⟩
    refine ⟨⟨h1, fun a ha => by rw [← h]; exact h2 a ha⟩, List.ext_getElem? fun j => ?_⟩
    rw [List.getElem?_map]
    by_cases hj : j < k
    · rw [List.getElem?_range hj, Option.map_some, h3, List.getD_eq_getElem?_getD, List.getElem?_eq_getElem (by omega)]; rfl
    · rw [List.getElem?_eq_none (by rw [List.length_range]; omega), List.getElem?_eq_none (by omega)]; rfl
end My
namespace My
open PySem PySem.Spec PyProof.Rows L2 LamX
/-! many families -/
abbrev Fz : Type := Addr × List Addr × List (List Int)
def fams (zs : List Fz) : List Cell := zs.map fun z => .fm z.1 z.2.1 (vv z.2.2)
def refs (zs : List Fz) : List V := zs.map fun z => .ref z.1
def vals (zs : List Fz) : List (List (List Int)) := zs.map (·.2.2)
theorem fams_app (zs ws : List Fz) : fams (zs ++ ws) = fams zs ++ fams ws := List.map_append
theorem refs_app (zs ws : List Fz) : refs (zs ++ ws) = refs zs ++ refs ws := List.map_append
theorem vals_app (zs ws : List Fz) : vals (zs ++ ws) = vals zs ++ vals ws := List.map_append
theorem fams_mem {zs : List Fz} {z : Fz} (h : z ∈ zs) : Cell.fm z.1 z.2.1 (vv z.2.2) ∈ fams zs := List.mem_map.mpr ⟨z, h, rfl⟩
theorem pull_mem {L : List Cell} {p : Addr} {qs : List Addr} {rows : List (List V)} (h : Cell.fm p qs rows ∈ L) : ∃ L', Pull L p (.fm p qs rows) L' := by
  obtain ⟨s, r, e⟩ := List.append_of_mem h
  exact ⟨s ++ r, ⟨by rw [e]; exact List.perm_middle⟩⟩
theorem Own.fmem {H0 H : Hp} {T : List (Addr × Str)} {L : List Cell} {p : Addr} {qs : List Addr} {fam : List (List Int)} (B : Own H0 H T L) (h : Cell.fm p qs (vv fam) ∈ L) : FamAt H p qs fam := by
  obtain ⟨L', P⟩ := pull_mem h
  exact B.famAt p
end My
namespace My
open PySem PySem.Spec PyProof.Rows L2 LamX
/-! what the laws of lengths share -/
theorem load_outN {j : Nat} {as bs : List Nat} (h : ∀ a ∈ as, a ≠ j) : load j as bs = 0 := load_none h
theorem pick_loadN (j : Nat) : ∀ (as : List Nat) (bs : List (List Int)), (pick j (as.zip bs)).flatten.length = load j as (szs bs)
  | [], bs => by cases bs <;> rfl
  | a :: as, [] => rfl
  | a :: as, b :: bs => by
    have ih := pick_loadN j as bs
    show _ = (if a = j then b.length else 0) + load j as (szs bs)
    rw [← ih]
    unfold pick
    rw [List.zip_cons_cons, List.filter_cons]
    by_cases e : a = j
    · subst e
      rw [if_pos rfl, if_pos (by simp), List.map_cons, List.flatten_cons, List.length_append]
    · rw [if_neg e, if_neg (by simp [e]), Nat.zero_add]
theorem lens_spreadN (k : Nat) (as : List Nat) (bs : List (List Int)) : (spread k (as.zip bs)).map List.length = (List.range k).map fun j => load j as (szs bs) := by
  unfold spread
  rw [List.map_map]
  exact List.map_congr_left fun j _ => pick_loadN j as bs
def spr (k : Nat) (ns : List Int) (as : List Nat) : List (List Int) := spread k (as.zip (cut ns))
theorem nis_inj {a b : List Nat} : decide (nis a = nis b) = decide (a = b) := by
  rw [Bool.eq_iff_iff, decide_eq_true_iff, decide_eq_true_iff]
  constructor
  · intro h
    unfold nis at h
    exact (List.map_inj_right (fun x y e => Int.ofNat.inj e)).mp h
  · intro h; rw [h]
abbrev fits (ls : List Nat) (z : Fz) : Bool := decide (nis (z.2.2.map List.length) = nis ls)
theorem due_vals {k : Nat} {ns : List Int} {ls : List Nat} {zs : List Fz} (h : vals zs = (allC k (cut ns).length).map (spr k ns)) (hl : ls.length = k) : vals (zs.filter (fits ls)) = (allA ns ls).map (spr k ns) := by
  have e1 : vals (zs.filter (fits ls)) = (vals zs).filter fun f => decide (f.map List.length = ls) := by
    unfold vals
    rw [List.filter_map]
    congr 1
    refine List.filter_congr fun z _ => ?_
    exact nis_inj
  rw [e1, h, List.filter_map]
  congr 1
  rw [show allA ns ls = asgL (szs (cut ns)) ls from rfl, ← fil_asgL (k := k) hl]
  rw [show (szs (cut ns)).length = (cut ns).length from List.length_map ..]
  refine List.filter_congr fun as _ => ?_
  show decide ((spr k ns as).map List.length = ls) = _
  unfold spr
  rw [lens_spreadN]
theorem szs_posN (ns : List Int) : ∀ s ∈ szs (cut ns), 0 < s := fun s hs => by
  obtain ⟨b, hb, rfl⟩ := List.mem_map.mp hs
  exact List.length_pos_iff.mpr ((good_cut ns).ne b hb)
theorem wgt_small {ls : List Nat} (h0 : 0 < ls.length) (h : ls.length ≤ 4) (hs : ls.sum ≤ 21) : wgtF 1 ls ≤ 20000 := by
  have k2 : ∀ x, x < 22 → ∀ y, y < 22 → x + y ≤ 21 → 1 * (x + 1) * (y + 1) ≤ 20000 := by decide +kernel
  have k3 : ∀ x, x < 22 → ∀ y, y < 22 → ∀ z, z < 22 → x + y + z ≤ 21 → 1 * (x + 1) * (y + 1) * (z + 1) ≤ 20000 := by decide +kernel
  have k4 : ∀ x, x < 22 → ∀ y, y < 22 → ∀ z, z < 22 → x + y + z ≤ 21 → 1 * (x + 1) * (y + 1) * (z + 1) * (22 - x - y - z) ≤ 20000 := by decide +kernel
  match ls, h, h0 with
  | [x], _, _ =>
    simp only [List.sum_cons, List.sum_nil] at hs
    show 1 * (x + 1) ≤ 20000
    omega
  | [x, y], _, _ =>
    simp only [List.sum_cons, List.sum_nil] at hs
    exact k2 x (by omega) y (by omega) (by omega)
  | [x, y, z], _, _ =>
    simp only [List.sum_cons, List.sum_nil] at hs
    exact k3 x (by omega) y (by omega) z (by omega) (by omega)
  | [x, y, z, u], _, _ =>
    simp only [List.sum_cons, List.sum_nil] at hs
    exact Nat.le_trans (Nat.mul_le_mul_left _ (show u + 1 ≤ 22 - x - y - z by omega)) (k4 x (by omega) y (by omega) z (by omega) (by omega))
  | _ :: _ :: _ :: _ :: _ :: _, h, _ => simp at h
theorem perm_of_memR {c : Cell} {L : List Cell} (h : c ∈ L) : ∃ L1, L.Perm (c :: L1) := by
  obtain ⟨s, t, rfl⟩ := List.append_of_mem h
  exact ⟨s ++ t, List.perm_middle⟩
theorem u_cntW {H0 H : Hp} {T : List (Addr × Str)} {L L1 L2 : List Cell} {a al : Addr} {ns : List Int} {ls : List Nat} {Q : VK} {E : XK} (B : Own H0 H T L) [P1 : Pull L a (.ob a (.lst (ns.map V.int))) L1] [P2 : Pull L al (.ob al (.lst ((nis ls).map V.int))) L2] (nd : ns.Nodup) (hn : ns.length ≤ 1000) (h0 : ls ≠ []) (hl : ls.length ≤ 1000) (hw : wgtF 1 ls ≤ 20000)
    (k : ∀ H', Own H0 H' T L → Q (.int ((cntF ns ls : Nat) : Int)) H') : spCountWithLengths [.ref a, .ref al] H Q E :=
  ⟨_, _, _, _, _, _, _, _, _, rfl, B, P1.p, P2.p, nd, hn, h0, hl, hw, k⟩
theorem u_nthW {H0 H : Hp} {T : List (Addr × Str)} {L L1 L2 : List Cell} {a al : Addr} {ns : List Int} {ls : List Nat} {as : List Nat} {n : Nat} {Q : VK} {E : XK} (B : Own H0 H T L) [P1 : Pull L a (.ob a (.lst (ns.map V.int))) L1] [P2 : Pull L al (.ob al (.lst ((nis ls).map V.int))) L2] (nd : ns.Nodup) (hn : ns.length ≤ 1000) (h0 : ls ≠ []) (hl : ls.length ≤ 1000) (hw : wgtF 1 ls ≤ 20000) (h1 : (allA ns ls)[n]? = some as)
    (k : ∀ p qs H', Own H0 H' T (.fm p qs (vv (spread ls.length (as.zip (cut ns)))) :: L) → Q (.ref p) H') : spNthWithLengths [.ref a, .ref al, .int (n : Int)] H Q E := by
  have hn0 := (List.getElem?_eq_some_iff.mp h1).1
  have e := (nth_allA ns ls (szs_posN ns) hn0).symm.trans h1
  cases Option.some.inj e
  exact ⟨_, _, _, _, _, _, _, _, _, _, rfl, B, P1.p, P2.p, nd, hn, h0, hl, hw, by rw [cnt_allA ns ls (szs_posN ns)]; exact hn0, k⟩
theorem spr_sh {k : Nat} {ns : List Int} {ls as : List Nat} (hk : 0 < k) (hs : Sh ns) (hl : ns.length ≤ 300) (h : as.length = (szs (cut ns)).length ∧ (∀ a ∈ as, a < ls.length) ∧ ∀ j, load j as (szs (cut ns)) = ls.getD j 0) (hll : ls.length = k) : ∀ b ∈ spr k ns as, Sh b ∧ b.length ≤ 300 := by
  have e1 : (as.zip (cut ns)).map (·.2) = cut ns := List.map_snd_zip (by have := h.1; rw [show (szs (cut ns)).length = (cut ns).length from List.length_map ..] at this; omega)
  have pm : (spr k ns as).flatten.Perm ns := by
    unfold spr
    refine (spread_flat fun w hw => by rw [← hll]; exact h.2.1 _ (List.of_mem_zip hw).1).trans ?_
    rw [e1, (good_cut ns).flat]
  intro b hb
  refine ⟨fun x hx => hs x (pm.mem_iff.mp (List.mem_flatten.mpr ⟨b, hb, hx⟩)), ?_⟩
  have := flat_mem_len hb
  rw [pm.length_eq] at this
  omega
theorem s_repFA {K : PySem.W.Frag} {H : Hp} {p : Addr} {qs : List Addr} {fam : List (List Int)} {Q : VK} (hf : FamAt H p qs fam) (hs : ∀ b ∈ fam, Sh b ∧ b.length ≤ 300) (hl : fam.length ≤ 300) (k : Q (.str (dR fam).shown) H) : rRep K [.ref p] H Q := by
  obtain ⟨h1, h2, h3, h4⟩ := askR hs hl
  exact ⟨p, dR fam, rfl, dpR hf.top hf.rows, h1, h2, h3, h4, k⟩
theorem dpZ {K : PySem.W.Frag} {H : Hp} {x : Addr} {zs : List (Addr × List Int)} (ht : H x = some (.lst (zs.map fun z => V.ref z.1))) (h : ∀ z ∈ zs, H z.1 = some (.lst (z.2.map V.int))) : Dp K H (.ref x) (dR (zs.map (·.2))) := by
  refine .lst (SqL.of ht) ?_
  clear ht
  induction zs with
  | nil => exact .nil
  | cons z zs ih => exact .cons (dpI (SqL.of (h z (List.mem_cons_self ..)))) (ih fun y hy => h y (List.mem_cons_of_mem _ hy))
theorem s_neRZ {K : PySem.W.Frag} {H : Hp} {p x : Addr} {qs : List Addr} {fam : List (List Int)} {zs : List (Addr × List Int)} {Q : VK} (h1 : H p = some (.lst (qs.map V.ref))) (h2 : Rws H qs (vv fam)) (ht : H x = some (.lst (zs.map fun z => V.ref z.1))) (h : ∀ z ∈ zs, H z.1 = some (.lst (z.2.map V.int))) (k : Q (.bl (!decide (fam = zs.map (·.2)))) H) : rNeD K (.ref p) (.ref x) H Q :=
  ⟨dR fam, dR (zs.map (·.2)), dpR h1 h2, dpZ ht h, shapedR _, shapedR _, by rw [eqv_RR]; exact k⟩
theorem s_rpt {H0 H : Hp} {T : List (Addr × Str)} {L : List Cell} {a : Addr} {xs : List V} {k : Int} {Q : VK} (B : Own H0 H T L) (h1 : H a = some (.lst xs)) (h2 : -(2 ^ 63) ≤ k) (h3 : k < 2 ^ 63) (h : xs.length * k.toNat ≤ sizeLine) (c : ∀ p H', Own H0 H' T (.ob p (.lst (List.replicate k.toNat xs).flatten) :: L) → Q (.ref p) H') : L2.rRep (.ref a) (.int k) H Q :=
  ⟨a, k, xs, rfl, rfl, h1, h2, h3, h, fun p n => c p _ (B.new n trivial)⟩
theorem mem_le_sum : ∀ {l : List Nat} {y : Nat}, y ∈ l → y ≤ l.sum
  | x :: l, y, h => by
    rw [List.sum_cons]
    rcases List.mem_cons.mp h with rfl | h
    · omega
    · have := mem_le_sum h; omega
theorem flat_rep {n : Nat} {x : V} : (List.replicate n [x]).flatten.length = n := by
  induction n with
  | zero => rfl
  | succ n ih => rw [List.replicate_succ, List.flatten_cons, List.length_append, ih, List.length_cons, List.length_nil]; omega
theorem flat_repl1 {n : Nat} {x : V} : (List.replicate n [x]).flatten = List.replicate n x := by
  induction n with
  | zero => rfl
  | succ n ih => rw [List.replicate_succ, List.flatten_cons, ih, List.replicate_succ]; rfl
end My
namespace My
open PySem PySem.Spec PyProof.Rows L2 LamX
/-! how many ways to deal equal blocks -/
noncomputable def c2 (a : Nat) : Nat → Nat := Nat.rec (motive := fun _ => Nat → Nat) (fun _ => 1) (fun _ ih b => Nat.rec (motive := fun _ => Nat) 1 (fun b r => ih (b + 1) + r) b) a
theorem c2_zero (a : Nat) : c2 a 0 = 1 := by cases a <;> rfl
theorem c2_id : ∀ n a b, a + b = n → c2 (a + 1) b * (a + 1) = c2 a b * (a + b + 1) ∧ c2 a (b + 1) * (b + 1) = c2 a b * (a + b + 1) := by
  intro n
  induction n with
  | zero =>
    intro a b h
    have ea : a = 0 := by omega
    have eb : b = 0 := by omega
    subst ea eb
    exact ⟨rfl, rfl⟩
  | succ n ih =>
    intro a b h
    constructor
    · cases b with
      | zero => rw [c2_zero, c2_zero]
      | succ b =>
        obtain ⟨i1, i2⟩ := ih a b (by omega)
        show (c2 a (b + 1) + c2 (a + 1) b) * (a + 1) = c2 a (b + 1) * (a + (b + 1) + 1)
        have e : c2 a (b + 1) * (a + (b + 1) + 1) = c2 a (b + 1) * (a + 1) + c2 a (b + 1) * (b + 1) := by rw [← Nat.mul_add]; congr 1; omega
        rw [e, Nat.add_mul, i1, i2]
    · cases a with
      | zero =>
        show 1 * (b + 1) = 1 * (0 + b + 1)
        omega
      | succ a =>
        obtain ⟨i1, i2⟩ := ih a b (by omega)
        show (c2 a (b + 1) + c2 (a + 1) b) * (b + 1) = c2 (a + 1) b * (a + 1 + b + 1)
        have e : c2 (a + 1) b * (a + 1 + b + 1) = c2 (a + 1) b * (a + 1) + c2 (a + 1) b * (b + 1) := by rw [← Nat.mul_add]; rfl
        rw [e, Nat.add_mul, i1, i2]
theorem c2_step (d t : Nat) : c2 d t * (d + t + 1) = c2 d (t + 1) * (t + 1) := (c2_id _ d t rfl).2.symm
/-- ways to mix so many with queues -/
noncomputable def mulS : Nat → List Nat → Nat
  | _, [] => 1
  | d, p :: ps => c2 d p * mulS (d + p) ps
theorem sum_rng_mul (c : Nat) (F : Nat → Nat) : ∀ n, ((List.range n).map fun j => c * F j).sum = c * ((List.range n).map F).sum
  | 0 => by simp
  | n + 1 => by
    rw [List.range_succ, List.map_append, List.map_append, List.sum_append, List.sum_append, sum_rng_mul c F n, Nat.mul_add]
    simp
theorem mulS_rec : ∀ (ps : List Nat) (d : Nat), 0 < d + ps.sum → mulS d ps = (if 0 < d then mulS (d - 1) ps else 0) + ((List.range ps.length).map fun j => if 0 < ps.getD j 0 then mulS d (ps.set j (ps.getD j 0 - 1)) else 0).sum
  | [], d, h => by
    have hd : 0 < d := by simpa using h
    rw [if_pos hd]; rfl
  | p :: ps, d, h => by
    have hs : 0 < (d + p) + ps.sum := by rw [List.sum_cons] at h; omega
    have ih := mulS_rec ps (d + p) hs
    have e1 : ((List.range (p :: ps).length).map fun j => if 0 < (p :: ps).getD j 0 then mulS d ((p :: ps).set j ((p :: ps).getD j 0 - 1)) else 0).sum
        = ((List.range ps.length).map fun j => c2 d p * (if 0 < ps.getD j 0 then mulS (d + p) (ps.set j (ps.getD j 0 - 1)) else 0)).sum + (if 0 < p then c2 d (p - 1) * mulS (d + (p - 1)) ps else 0) := by
      rw [List.length_cons, rsum_first]
      congr 1
      congr 1
      refine List.map_congr_left fun j _ => ?_
      rw [List.getD_cons_succ]
      by_cases c : 0 < ps.getD j 0
      · rw [if_pos c, if_pos c, List.set_cons_succ]; rfl
      · rw [if_neg c, if_neg c, Nat.mul_zero]
    have e2 := sum_rng_mul (c2 d p) (fun j => if 0 < ps.getD j 0 then mulS (d + p) (ps.set j (ps.getD j 0 - 1)) else 0) ps.length
    rw [e1, e2]
    clear e1 e2
    show c2 d p * mulS (d + p) ps = (if 0 < d then c2 (d - 1) p * mulS (d - 1 + p) ps else 0) + _
    generalize ((List.range ps.length).map fun j => if 0 < ps.getD j 0 then mulS (d + p) (ps.set j (ps.getD j 0 - 1)) else 0).sum = S at ih ⊢
    rw [ih, Nat.mul_add]
    cases d with
    | zero =>
      cases p with
      | zero => simp
      | succ p =>
        rw [if_pos (by omega), if_neg (Nat.lt_irrefl 0), if_pos (Nat.succ_pos p)]
        show 1 * mulS (0 + (p + 1) - 1) ps + 1 * S = 0 + (1 * S + 1 * mulS (0 + (p + 1 - 1)) ps)
        rw [show 0 + (p + 1) - 1 = 0 + (p + 1 - 1) by omega]
        omega
    | succ d =>
      cases p with
      | zero =>
        simp [c2_zero]
      | succ p =>
        rw [if_pos (by omega), if_pos (Nat.succ_pos d), if_pos (Nat.succ_pos p)]
        rw [show d + 1 - 1 + (p + 1) = d + 1 + (p + 1) - 1 by omega, show d + 1 + (p + 1 - 1) = d + 1 + (p + 1) - 1 by omega]
        show (c2 d (p + 1) + c2 (d + 1) p) * mulS (d + 1 + (p + 1) - 1) ps + c2 (d + 1) (p + 1) * S = c2 d (p + 1) * mulS (d + 1 + (p + 1) - 1) ps + (c2 (d + 1) (p + 1) * S + c2 (d + 1) p * mulS (d + 1 + (p + 1) - 1) ps)
        rw [Nat.add_mul]
        omega
theorem mulS_zero : ∀ (ps : List Nat), ps.sum = 0 → mulS 0 ps = 1
  | [], _ => rfl
  | p :: ps, h => by
    rw [List.sum_cons] at h
    have hp : p = 0 := by omega
    subst hp
    show c2 0 0 * mulS (0 + 0) ps = 1
    rw [mulS_zero ps (by omega)]; rfl
theorem sum_zero_all : ∀ {ps : List Nat}, ps.sum = 0 → ∀ x ∈ ps, x = 0
  | p :: ps, h, x, hx => by
    rw [List.sum_cons] at h
    rcases List.mem_cons.mp hx with rfl | hx
    · omega
    · exact sum_zero_all (ps := ps) (by omega) x hx
theorem sum_set1 : ∀ {ps : List Nat} {j : Nat}, 0 < ps.getD j 0 → (ps.set j (ps.getD j 0 - 1)).sum + 1 = ps.sum
  | [], j, h => by simp at h
  | p :: ps, 0, h => by
    have h : 0 < p := h
    show ((p - 1) :: ps).sum + 1 = _
    rw [List.sum_cons, List.sum_cons]; omega
  | p :: ps, j + 1, h => by
    have ih := sum_set1 (ps := ps) (j := j) h
    rw [List.set_cons_succ, List.getD_cons_succ, List.sum_cons, List.sum_cons]; omega
/-- blocks all of one size, dealt to queues of whole blocks -/
theorem cntL_mul {s : Nat} (hs : 0 < s) : ∀ (n : Nat) (ps : List Nat), ps.sum = n → cntL (List.replicate n s) (ps.map (· * s)) = mulS 0 ps
  | 0, ps, h => by
    rw [mulS_zero ps h]
    show (if (ps.map (· * s)).all (fun r => r == 0) = true then [[]] else [] : List (List Nat)).length = 1
    rw [if_pos]; · rfl
    rw [List.all_eq_true]
    intro x hx
    obtain ⟨p, hp, rfl⟩ := List.mem_map.mp hx
    rw [sum_zero_all h p hp]; simp
  | n + 1, ps, h => by
    rw [List.replicate_succ, cntL_cons, mulS_rec ps 0 (by omega), if_neg (Nat.lt_irrefl 0), Nat.zero_add, List.length_map]
    congr 1
    refine List.map_congr_left fun j _ => ?_
    have eg : (ps.map (· * s)).getD j 0 = ps.getD j 0 * s := by
      rw [List.getD_eq_getElem?_getD, List.getElem?_map, List.getD_eq_getElem?_getD]
      cases ps[j]? <;> simp
    rw [eg]
    by_cases c : 0 < ps.getD j 0
    · have cc : s ≤ ps.getD j 0 * s := Nat.le_mul_of_pos_left s c
      rw [if_pos cc, if_pos c]
      have e2 : (ps.map (· * s)).set j (ps.getD j 0 * s - s) = (ps.set j (ps.getD j 0 - 1)).map (· * s) := by
        rw [List.map_set, Nat.sub_mul, Nat.one_mul]
      rw [e2]
      exact cntL_mul hs n _ (by have := sum_set1 c; omega)
    · have e0 : ps.getD j 0 = 0 := by omega
      rw [if_neg c, e0, Nat.zero_mul, if_neg (by omega)]
end My
namespace My
open PySem PySem.Spec PyProof.Rows L2 LamX
/-! the first and the last assignment of equal blocks -/
def concF : Nat → List Nat → List Nat
  | _, [] => []
  | i, p :: ps => List.replicate p i ++ concF (i + 1) ps
theorem conc_len : ∀ (ps : List Nat) (i : Nat), (concF i ps).length = ps.sum
  | [], _ => rfl
  | p :: ps, i => by
    show (List.replicate p i ++ concF (i + 1) ps).length = _
    rw [List.length_append, List.length_replicate, conc_len ps, List.sum_cons]
theorem conc_mem : ∀ (ps : List Nat) (i a : Nat), a ∈ concF i ps → i ≤ a ∧ a < i + ps.length
  | [], _, _, h => nomatch h
  | p :: ps, i, a, h => by
    rcases List.mem_append.mp h with z | z
    · rw [List.eq_of_mem_replicate z, List.length_cons]; omega
    · have := conc_mem ps (i + 1) a z
      rw [List.length_cons]; omega
theorem conc_asc : ∀ (ps : List Nat) (i : Nat), (concF i ps).Pairwise (· ≤ ·)
  | [], _ => List.Pairwise.nil
  | p :: ps, i => by
    refine List.pairwise_append.mpr ⟨List.pairwise_replicate.mpr (.inr (Nat.le_refl _)), conc_asc ps (i + 1), fun a ha b hb => ?_⟩
    rw [List.eq_of_mem_replicate ha]
    have := conc_mem ps (i + 1) b hb
    omega
theorem conc_cnt : ∀ (ps : List Nat) (i j : Nat), (concF i ps).count (i + j) = ps.getD j 0
  | [], _, _ => by simp [concF]
  | p :: ps, i, 0 => by
    show (List.replicate p i ++ concF (i + 1) ps).count (i + 0) = p
    rw [List.count_append, Nat.add_zero, List.count_replicate_self, List.count_eq_zero.mpr fun h => ?_]
    · rfl
    · have := conc_mem ps (i + 1) i h; omega
  | p :: ps, i, j + 1 => by
    show (List.replicate p i ++ concF (i + 1) ps).count (i + (j + 1)) = ps.getD j 0
    rw [List.count_append, List.count_eq_zero.mpr fun h => by have := List.eq_of_mem_replicate h; omega, Nat.zero_add, show i + (j + 1) = i + 1 + j by omega, conc_cnt ps (i + 1) j]
theorem load_rep {s j : Nat} : ∀ {as : List Nat} {n : Nat}, as.length = n → load j as (List.replicate n s) = as.count j * s
  | [], 0, _ => by simp [load]
  | [], _ + 1, h => by cases h
  | _ :: _, 0, h => by cases h
  | a :: as, n + 1, h => by
    have ih := load_rep (s := s) (j := j) (as := as) (n := n) (Nat.succ.inj h)
    rw [List.replicate_succ]
    show (if a = j then s else 0) + load j as (List.replicate n s) = _
    rw [ih, List.count_cons]
    by_cases e : a = j
    · rw [if_pos e, if_pos (by simp [e]), Nat.add_mul]; omega
    · rw [if_neg e, if_neg (by simp [e]), Nat.add_zero, Nat.zero_add]
theorem getD_mul (ps : List Nat) (s j : Nat) : (ps.map (· * s)).getD j 0 = ps.getD j 0 * s := by
  rw [List.getD_eq_getElem?_getD, List.getElem?_map, List.getD_eq_getElem?_getD]
  cases ps[j]? <;> simp
section
variable {s n : Nat} {ps : List Nat}
theorem mem_ends {as : List Nat} (p : as.Perm (concF 0 ps)) (h : ps.sum = n) : as ∈ asgL (List.replicate n s) (ps.map (· * s)) := by
  have hl : as.length = n := by rw [p.length_eq, conc_len, h]
  refine (mem_asgL _ _ _).mpr ⟨by rw [hl, List.length_replicate], fun a ha => ?_, fun j => ?_⟩
  · have := conc_mem ps 0 a (p.mem_iff.mp ha)
    rw [List.length_map]; omega
  · rw [load_rep hl, p.count_eq, getD_mul, ← conc_cnt ps 0 j, Nat.zero_add]
theorem ends_perm {as : List Nat} (hs : 0 < s) (h : ps.sum = n) (m : as ∈ asgL (List.replicate n s) (ps.map (· * s))) : as.Perm (concF 0 ps) := by
  obtain ⟨h1, h2, h3⟩ := (mem_asgL _ _ _).mp m
  rw [List.length_replicate] at h1
  refine List.perm_iff_count.mpr fun j => ?_
  have h4 := h3 j
  rw [load_rep h1, getD_mul] at h4
  have h5 := conc_cnt ps 0 j
  rw [Nat.zero_add] at h5
  rw [h5]
  exact Nat.eq_of_mul_eq_mul_right hs h4
theorem lex_min : ∀ {a b : List Nat}, a.Perm b → b.Pairwise (· ≤ ·) → lexL (nI a) (nI b) = false
  | [], b, p, _ => by cases List.Perm.nil_eq p; rfl
  | x :: a, [], p, _ => absurd p.length_eq (by simp)
  | x :: a, y :: b, p, s => by
    obtain ⟨s1, s2⟩ := List.pairwise_cons.mp s
    have le : y ≤ x := by
      rcases List.mem_cons.mp (p.mem_iff.mp (List.mem_cons_self ..)) with h | h
      · omega
      · exact s1 x h
    show (if (x : Int) = (y : Int) then lexL (nI a) (nI b) else decide ((x : Int) < (y : Int))) = false
    by_cases e : x = y
    · subst e
      rw [if_pos rfl]
      exact lex_min ((List.perm_cons x).mp p) s2
    · rw [if_neg (by omega)]
      exact decide_eq_false (by omega)
theorem lex_max : ∀ {a b : List Nat}, a.Perm b → b.Pairwise (· ≥ ·) → lexL (nI b) (nI a) = false
  | [], b, p, _ => by cases List.Perm.nil_eq p; rfl
  | x :: a, [], p, _ => absurd p.length_eq (by simp)
  | x :: a, y :: b, p, s => by
    obtain ⟨s1, s2⟩ := List.pairwise_cons.mp s
    have le : x ≤ y := by
      rcases List.mem_cons.mp (p.mem_iff.mp (List.mem_cons_self ..)) with h | h
      · omega
      · exact s1 x h
    show (if (y : Int) = (x : Int) then lexL (nI b) (nI a) else decide ((y : Int) < (x : Int))) = false
    by_cases e : x = y
    · subst e
      rw [if_pos rfl]
      exact lex_max ((List.perm_cons x).mp p) s2
    · rw [if_neg (by omega)]
      exact decide_eq_false (by omega)
theorem first_is (hs : 0 < s) (h : ps.sum = n) : (asgL (List.replicate n s) (ps.map (· * s)))[0]? = some (concF 0 ps) := by
  obtain ⟨i, hi⟩ := List.getElem?_of_mem (mem_ends (s := s) (List.Perm.refl (concF 0 ps)) h)
  have hl := (List.getElem?_eq_some_iff.mp hi).1
  have h0 : (asgL (List.replicate n s) (ps.map (· * s)))[0]? = some ((asgL (List.replicate n s) (ps.map (· * s)))[0]'(by omega)) := List.getElem?_eq_getElem (by omega)
  have z := asgL_at h0 hi
  rw [lex_min (ends_perm hs h (List.mem_of_getElem? h0)) (conc_asc ps 0)] at z
  have : i = 0 := by
    have := of_decide_eq_false z.symm
    omega
  rw [this] at hi
  exact hi
theorem last_is (hs : 0 < s) (h : ps.sum = n) : (asgL (List.replicate n s) (ps.map (· * s)))[(asgL (List.replicate n s) (ps.map (· * s))).length - 1]? = some (concF 0 ps).reverse := by
  obtain ⟨i, hi⟩ := List.getElem?_of_mem (mem_ends (s := s) (List.reverse_perm (concF 0 ps)) h)
  have hl := (List.getElem?_eq_some_iff.mp hi).1
  have h0 : (asgL (List.replicate n s) (ps.map (· * s)))[(asgL (List.replicate n s) (ps.map (· * s))).length - 1]? = some ((asgL (List.replicate n s) (ps.map (· * s)))[(asgL (List.replicate n s) (ps.map (· * s))).length - 1]'(by omega)) := List.getElem?_eq_getElem (by omega)
  have z := asgL_at hi h0
  rw [lex_max ((ends_perm hs h (List.mem_of_getElem? h0)).trans (List.reverse_perm _).symm) (List.pairwise_reverse.mpr (conc_asc ps 0))] at z
  have : i = (asgL (List.replicate n s) (ps.map (· * s))).length - 1 := by
    have := of_decide_eq_false z.symm
    omega
  rw [← this]
  exact hi
end
/-! the families of these -/
theorem pick_app (j : Nat) (xs ys : List (Nat × List Int)) : pick j (xs ++ ys) = pick j xs ++ pick j ys := by unfold pick; rw [List.filter_append, List.map_append]
theorem pick_rep {i j p : Nat} : ∀ {bs : List (List Int)}, bs.length = p → pick j ((List.replicate p i).zip bs) = if i = j then bs else [] := by
  induction p with
  | zero => intro bs h; rw [List.eq_nil_of_length_eq_zero h]; simp [pick]
  | succ p ih =>
    intro bs h
    cases bs with
    | nil => cases h
    | cons b bs =>
      have := ih (bs := bs) (Nat.succ.inj h)
      unfold pick at this ⊢
      rw [List.replicate_succ, List.zip_cons_cons, List.filter_cons]
      by_cases e : i = j
      · rw [if_pos (by simp [e]), List.map_cons, this, if_pos e, if_pos e]
      · rw [if_neg (by simp [e]), this, if_neg e, if_neg e]
theorem pick_out {j : Nat} {as : List Nat} {bs : List (List Int)} (h : ∀ a ∈ as, a ≠ j) : pick j (as.zip bs) = [] := by
  unfold pick
  rw [List.filter_eq_nil_iff.mpr fun w hw => by simpa using h _ (List.of_mem_zip hw).1]; rfl
def sliF : List (List Int) → List Nat → List (List Int)
  | _, [] => []
  | bs, p :: ps => (bs.take p).flatten :: sliF (bs.drop p) ps
def lasF : List (List Int) → List Nat → List (List Int)
  | _, [] => []
  | bs, p :: ps => (bs.drop (bs.length - p)).flatten :: lasF (bs.take (bs.length - p)) ps
theorem conc_sli : ∀ (ps : List Nat) (i : Nat) (bs : List (List Int)), ps.sum = bs.length → ((List.range ps.length).map fun j => (pick (i + j) ((concF i ps).zip bs)).flatten) = sliF bs ps
  | [], _, _, _ => rfl
  | p :: ps, i, bs, h => by
    rw [List.sum_cons] at h
    have ez : (concF i (p :: ps)).zip bs = (List.replicate p i).zip (bs.take p) ++ (concF (i + 1) ps).zip (bs.drop p) := by
      conv => lhs; rw [← List.take_append_drop p bs]
      exact List.zip_append (by rw [List.length_replicate, List.length_take]; omega)
    have tl : (bs.take p).length = p := by rw [List.length_take]; omega
    rw [List.length_cons, List.range_succ_eq_map, List.map_cons, List.map_map, ez]
    show _ :: _ = (bs.take p).flatten :: sliF (bs.drop p) ps
    congr 1
    · rw [Nat.add_zero, pick_app, pick_rep tl, if_pos rfl, pick_out fun a ha e => by have := conc_mem ps (i + 1) a ha; omega, List.append_nil]
    · rw [← conc_sli ps (i + 1) (bs.drop p) (by rw [List.length_drop]; omega)]
      refine List.map_congr_left fun j _ => ?_
      show (pick (i + (j + 1)) _).flatten = _
      rw [pick_app, pick_rep tl, if_neg (by omega), List.nil_append, show i + (j + 1) = i + 1 + j by omega]
theorem conc_las : ∀ (ps : List Nat) (i : Nat) (bs : List (List Int)), ps.sum = bs.length → ((List.range ps.length).map fun j => (pick (i + j) ((concF i ps).reverse.zip bs)).flatten) = lasF bs ps
  | [], _, _, _ => rfl
  | p :: ps, i, bs, h => by
    rw [List.sum_cons] at h
    have ez : (concF i (p :: ps)).reverse.zip bs = (concF (i + 1) ps).reverse.zip (bs.take (bs.length - p)) ++ (List.replicate p i).zip (bs.drop (bs.length - p)) := by
      conv => lhs; rw [← List.take_append_drop (bs.length - p) bs]
      show (List.replicate p i ++ concF (i + 1) ps).reverse.zip _ = _
      rw [List.reverse_append, List.reverse_replicate]
      exact List.zip_append (by rw [List.length_reverse, conc_len, List.length_take]; omega)
    have tl : (bs.drop (bs.length - p)).length = p := by rw [List.length_drop]; omega
    rw [List.length_cons, List.range_succ_eq_map, List.map_cons, List.map_map, ez]
    show _ :: _ = (bs.drop (bs.length - p)).flatten :: lasF (bs.take (bs.length - p)) ps
    congr 1
    · rw [Nat.add_zero, pick_app, pick_rep tl, if_pos rfl, pick_out fun a ha e => by have := conc_mem ps (i + 1) a (List.mem_reverse.mp ha); omega, List.nil_append]
    · rw [← conc_las ps (i + 1) (bs.take (bs.length - p)) (by rw [List.length_take]; omega)]
      refine List.map_congr_left fun j _ => ?_
      show (pick (i + (j + 1)) _).flatten = _
      rw [pick_app, pick_rep tl, if_neg (by omega), List.append_nil, show i + (j + 1) = i + 1 + j by omega]
/-- parts of a list from the front, from the back -/
def sliR : List Int → List Nat → List (List Int)
  | _, [] => []
  | ms, l :: ls => ms.take l :: sliR (ms.drop l) ls
def lasR : List Int → List Nat → List (List Int)
  | _, [] => []
  | ms, l :: ls => ms.drop (ms.length - l) :: lasR (ms.take (ms.length - l)) ls
theorem flat_all {s : Nat} : ∀ {bs : List (List Int)}, (∀ b ∈ bs, b.length = s) → bs.flatten.length = bs.length * s
  | [], _ => by simp
  | b :: bs, h => by
    rw [List.flatten_cons, List.length_append, h b (List.mem_cons_self ..), flat_all fun x hx => h x (List.mem_cons_of_mem _ hx), List.length_cons, Nat.add_mul]; omega
theorem flat_takeS {s : Nat} {bs : List (List Int)} (h : ∀ b ∈ bs, b.length = s) (p : Nat) (hp : p ≤ bs.length) : (bs.take p).flatten = bs.flatten.take (p * s) := by
  have e : bs.flatten = (bs.take p).flatten ++ (bs.drop p).flatten := by rw [← List.flatten_append, List.take_append_drop]
  have l : (bs.take p).flatten.length = p * s := by rw [flat_all fun b hb => h b (List.mem_of_mem_take hb), List.length_take, Nat.min_eq_left hp]
  rw [e, ← l, List.take_left]
theorem flat_dropS {s : Nat} {bs : List (List Int)} (h : ∀ b ∈ bs, b.length = s) (p : Nat) (hp : p ≤ bs.length) : (bs.drop p).flatten = bs.flatten.drop (p * s) := by
  have e : bs.flatten = (bs.take p).flatten ++ (bs.drop p).flatten := by rw [← List.flatten_append, List.take_append_drop]
  have l : (bs.take p).flatten.length = p * s := by rw [flat_all fun b hb => h b (List.mem_of_mem_take hb), List.length_take, Nat.min_eq_left hp]
  rw [e, ← l, List.drop_left]
theorem sli_FR {s : Nat} : ∀ (ps : List Nat) (bs : List (List Int)), (∀ b ∈ bs, b.length = s) → ps.sum = bs.length → sliF bs ps = sliR bs.flatten (ps.map (· * s))
  | [], _, _, _ => rfl
  | p :: ps, bs, h, hl => by
    rw [List.sum_cons] at hl
    show (bs.take p).flatten :: sliF (bs.drop p) ps = bs.flatten.take (p * s) :: sliR (bs.flatten.drop (p * s)) (ps.map (· * s))
    rw [flat_takeS h p (by omega), sli_FR ps (bs.drop p) (fun b hb => h b (List.mem_of_mem_drop hb)) (by rw [List.length_drop]; omega), flat_dropS h p (by omega)]
theorem las_FR {s : Nat} : ∀ (ps : List Nat) (bs : List (List Int)), (∀ b ∈ bs, b.length = s) → ps.sum = bs.length → lasF bs ps = lasR bs.flatten (ps.map (· * s))
  | [], _, _, _ => rfl
  | p :: ps, bs, h, hl => by
    rw [List.sum_cons] at hl
    show (bs.drop (bs.length - p)).flatten :: lasF (bs.take (bs.length - p)) ps = bs.flatten.drop (bs.flatten.length - p * s) :: lasR (bs.flatten.take (bs.flatten.length - p * s)) (ps.map (· * s))
    have e : bs.flatten.length - p * s = (bs.length - p) * s := by rw [flat_all h, Nat.sub_mul]
    rw [e, flat_dropS h _ (by omega), las_FR ps (bs.take (bs.length - p)) (fun b hb => h b (List.mem_of_mem_take hb)) (by rw [List.length_take]; omega), flat_takeS h _ (by omega)]
theorem sliR_get : ∀ (ls : List Nat) (ms : List Int) (i l : Nat), ls[i]? = some l → (sliR ms ls)[i]? = some ((ms.drop (ls.take i).sum).take l)
  | l0 :: ls, ms, 0, l, h => by
    cases Option.some.inj h
    rfl
  | l0 :: ls, ms, i + 1, l, h => by
    have ih := sliR_get ls (ms.drop l0) i l h
    show (sliR (ms.drop l0) ls)[i]? = _
    rw [ih, List.drop_drop, List.take_succ_cons, List.sum_cons]
theorem sliR_len : ∀ (ls : List Nat) (ms : List Int), (sliR ms ls).length = ls.length
  | [], _ => rfl
  | l :: ls, ms => by show (_ :: sliR _ ls).length = _; rw [List.length_cons, sliR_len ls, List.length_cons]
theorem lasR_len : ∀ (ls : List Nat) (ms : List Int), (lasR ms ls).length = ls.length
  | [], _ => rfl
  | l :: ls, ms => by show (_ :: lasR _ ls).length = _; rw [List.length_cons, lasR_len ls, List.length_cons]
theorem lasR_get : ∀ (ls : List Nat) (ms : List Int) (i l : Nat), ls.sum = ms.length → ls[i]? = some l → (lasR ms ls)[i]? = some ((ms.drop (ms.length - (ls.take i).sum - l)).take l)
  | l0 :: ls, ms, 0, l, hs, h => by
    cases Option.some.inj h
    rw [List.sum_cons] at hs
    show some (ms.drop (ms.length - l0)) = some ((ms.drop (ms.length - 0 - l0)).take l0)
    rw [Nat.sub_zero, List.take_of_length_le (by rw [List.length_drop]; omega)]
  | l0 :: ls, ms, i + 1, l, hs, h => by
    rw [List.sum_cons] at hs
    have tl : (ms.take (ms.length - l0)).length = ms.length - l0 := by rw [List.length_take]; omega
    have ih := lasR_get ls (ms.take (ms.length - l0)) i l (by omega) h
    show (lasR (ms.take (ms.length - l0)) ls)[i]? = _
    rw [ih, tl, List.take_succ_cons, List.sum_cons]
    have le : (ls.take i).sum + l ≤ ls.sum := by
      have e : ls.take (i + 1) = ls.take i ++ [l] := by rw [List.take_add_one, show ls[i]? = some l from h]; rfl
      have e2 : (ls.take (i + 1)).sum + (ls.drop (i + 1)).sum = ls.sum := by rw [← List.sum_append, List.take_append_drop]
      rw [e, List.sum_append] at e2
      simp at e2
      omega
    rw [List.drop_take, List.take_take]
    congr 2
    · omega
    · congr 1; omega
end My
namespace My
open PySem PySem.Spec PyProof.Rows L2 LamX
theorem c2_pow : ∀ n a b, a + b = n → c2 a b ≤ 2 ^ n := by
  intro n
  induction n with
  | zero =>
    intro a b h
    have ea : a = 0 := by omega
    have eb : b = 0 := by omega
    subst ea eb
    exact Nat.le_refl 1
  | succ n ih =>
    intro a b h
    cases a with
    | zero => exact Nat.one_le_two_pow
    | succ a =>
      cases b with
      | zero => rw [c2_zero]; exact Nat.one_le_two_pow
      | succ b =>
        have h1 := ih a (b + 1) (by omega)
        have h2 := ih (a + 1) b (by omega)
        show c2 a (b + 1) + c2 (a + 1) b ≤ _
        rw [Nat.pow_succ]; omega
def nz (ps : List Nat) : Nat := (ps.filter fun p => decide (0 < p)).length
theorem mulS_pow : ∀ (ps : List Nat) (d : Nat), mulS d ps ≤ 2 ^ (nz ps * (d + ps.sum))
  | [], d => by show 1 ≤ _; exact Nat.one_le_two_pow
  | p :: ps, d => by
    have ih := mulS_pow ps (d + p)
    show c2 d p * mulS (d + p) ps ≤ _
    rw [List.sum_cons]
    have ea : d + p + ps.sum = d + (p + ps.sum) := by omega
    rw [ea] at ih
    by_cases h : 0 < p
    · have e : nz (p :: ps) = nz ps + 1 := by unfold nz; rw [List.filter_cons, if_pos (decide_eq_true h), List.length_cons]
      rw [e, Nat.add_mul, Nat.pow_add, Nat.one_mul, Nat.mul_comm]
      refine Nat.mul_le_mul ih (Nat.le_trans (c2_pow (d + p) d p rfl) (Nat.pow_le_pow_right (by decide) (by omega)))
    · have hp : p = 0 := by omega
      subst hp
      have e : nz (0 :: ps) = nz ps := by unfold nz; rw [List.filter_cons, if_neg (by simp)]
      rw [e, c2_zero, Nat.one_mul]
      exact ih
theorem mulS_pow0 : ∀ (ps : List Nat), mulS 0 ps ≤ 2 ^ ((nz ps - 1) * ps.sum)
  | [] => by show 1 ≤ _; exact Nat.one_le_two_pow
  | p :: ps => by
    show c2 0 p * mulS (0 + p) ps ≤ _
    rw [show c2 0 p = 1 from rfl, Nat.one_mul, Nat.zero_add, List.sum_cons]
    by_cases h : 0 < p
    · have e : nz (p :: ps) = nz ps + 1 := by unfold nz; rw [List.filter_cons, if_pos (decide_eq_true h), List.length_cons]
      rw [e, Nat.add_sub_cancel]
      exact mulS_pow ps p
    · have hp : p = 0 := by omega
      subst hp
      have e : nz (0 :: ps) = nz ps := by unfold nz; rw [List.filter_cons, if_neg (by simp)]
      rw [e, Nat.zero_add]
      exact mulS_pow0 ps
theorem nz_app (xs ys : List Nat) : nz (xs ++ ys) = nz xs + nz ys := by unfold nz; rw [List.filter_append, List.length_append]
theorem nz_le (xs : List Nat) : nz xs ≤ xs.length := List.length_filter_le ..
theorem nz_zeros {xs : List Nat} (h : ∀ x ∈ xs, x = 0) : nz xs = 0 := by
  unfold nz
  rw [List.filter_eq_nil_iff.mpr fun x hx => by rw [h x hx]; simp]; rfl
theorem sum_zeros : ∀ {xs : List Nat}, (∀ x ∈ xs, x = 0) → xs.sum = 0
  | [], _ => rfl
  | x :: xs, h => by rw [List.sum_cons, h x (List.mem_cons_self ..), sum_zeros fun y hy => h y (List.mem_cons_of_mem _ hy)]
theorem sum_le {m : Nat} : ∀ {xs : List Nat}, (∀ x ∈ xs, x ≤ m) → xs.sum ≤ xs.length * m
  | [], _ => by simp
  | x :: xs, h => by
    have h1 := h x (List.mem_cons_self ..)
    have h2 := sum_le (xs := xs) fun y hy => h y (List.mem_cons_of_mem _ hy)
    rw [List.sum_cons, List.length_cons, Nat.add_mul]; omega
theorem wgt_appL (xs ys : List Nat) (w : Nat) : wgtF w (xs ++ ys) = wgtF (wgtF w xs) ys := by unfold wgtF; rw [List.foldl_append]
theorem wgt_zeros : ∀ {xs : List Nat} (w : Nat), (∀ x ∈ xs, x = 0) → wgtF w xs = w
  | [], _, _ => rfl
  | x :: xs, w, h => by
    have hx := h x (List.mem_cons_self ..)
    subst hx
    show wgtF (w * (0 + 1)) xs = w
    rw [wgt_zeros _ fun y hy => h y (List.mem_cons_of_mem _ hy)]; omega
theorem wgt_le {m : Nat} : ∀ {xs : List Nat} (w : Nat), (∀ x ∈ xs, x ≤ m) → wgtF w xs ≤ w * (m + 1) ^ xs.length
  | [], w, _ => by show w ≤ w * (m + 1) ^ 0; rw [Nat.pow_zero, Nat.mul_one]; exact Nat.le_refl _
  | x :: xs, w, h => by
    have h1 := h x (List.mem_cons_self ..)
    show wgtF (w * (x + 1)) xs ≤ _
    refine Nat.le_trans (wgt_le _ fun y hy => h y (List.mem_cons_of_mem _ hy)) ?_
    rw [List.length_cons, Nat.pow_succ, Nat.mul_assoc, Nat.mul_comm ((m + 1) ^ xs.length) (m + 1)]
    exact Nat.mul_le_mul_left _ (Nat.mul_le_mul_right _ (by omega))
/-- the number of an assignment grows with it -/
theorem wr_fold {k : Nat} : ∀ (as : List Nat) (r : Nat), as.foldl (fun r i => r * k + i) r = r * k ^ as.length + wr k as
  | [], r => by show r = r * k ^ 0 + 0; rw [Nat.pow_zero, Nat.mul_one, Nat.add_zero]
  | a :: as, r => by
    have h1 := wr_fold (k := k) as (r * k + a)
    have h2 := wr_fold (k := k) as (0 * k + a)
    show as.foldl _ (r * k + a) = r * k ^ (as.length + 1) + as.foldl _ (0 * k + a)
    rw [h1, h2, Nat.pow_succ, Nat.zero_mul, Nat.zero_add, Nat.add_mul, Nat.mul_assoc, Nat.mul_comm k, Nat.add_assoc]
theorem wr_consF {k : Nat} (a : Nat) (as : List Nat) : wr k (a :: as) = a * k ^ as.length + wr k as := by
  have h := wr_fold (k := k) as (0 * k + a)
  rw [Nat.zero_mul, Nat.zero_add] at h
  show as.foldl (fun r i => r * k + i) (0 * k + a) = _
  rw [Nat.zero_mul, Nat.zero_add]
  exact h
theorem wr_lex {k : Nat} (hk : 0 < k) : ∀ {a b : List Nat}, a.length = b.length → (∀ x ∈ a, x < k) → (∀ x ∈ b, x < k) → lexL (nI a) (nI b) = true → wr k a < wr k b
  | [], [], _, _, _, h => by cases h
  | [], _ :: _, l, _, _, _ => by cases l
  | _ :: _, [], l, _, _, _ => by cases l
  | x :: a, y :: b, l, ha, hb, h => by
    have l := Nat.succ.inj l
    have h : (if (x : Int) = (y : Int) then lexL (nI a) (nI b) else decide ((x : Int) < (y : Int))) = true := h
    have b1 := wr_bound hk (as := a) fun z hz => ha z (List.mem_cons_of_mem _ hz)
    rw [wr_consF, wr_consF, ← l]
    by_cases e : x = y
    · rw [if_pos (by rw [e])] at h
      have := wr_lex hk l (fun z hz => ha z (List.mem_cons_of_mem _ hz)) (fun z hz => hb z (List.mem_cons_of_mem _ hz)) h
      rw [e]; omega
    · rw [if_neg (by omega)] at h
      have lt : x < y := by have := of_decide_eq_true h; omega
      have : (x + 1) * k ^ a.length ≤ y * k ^ a.length := Nat.mul_le_mul_right _ lt
      rw [Nat.add_mul, Nat.one_mul] at this
      omega
/-- what the law draws as parts -/
structure Pt (ps : List Nat) : Prop where
  l1 : 1 ≤ ps.length
  l2 : ps.length ≤ 150
  sm : ps.sum ≤ 72
  w1 : wgtF 1 ps ≤ 20000
  w2 : ps.length < 4 → wgtF 1 (ps.map (· * 2)) ≤ 20000
  many : mulS 0 ps ≤ 2 ^ 99
theorem many_of {ps : List Nat} {z S : Nat} (h1 : nz ps ≤ z) (h2 : ps.sum ≤ S) (h : (z - 1) * S ≤ 99) : mulS 0 ps ≤ 2 ^ 99 :=
  Nat.le_trans (mulS_pow0 ps) (Nat.pow_le_pow_right (by decide) (Nat.le_trans (Nat.mul_le_mul (by omega) h2) h))
end My
namespace My
open PySem PySem.Spec PyProof.Rows L2 LamX
section
variable {H0 H : Hp} {T : List (Addr × Str)} {L : List Cell} {σ : L2.St} {D : Ends} {g : TG} {s : TS} {t : TA} {i j : Int}
def ItR2 (vs : List V) (H : Hp) (R : It → Hp → Prop) : Prop := ∃ i j : Int, vs = [.int i, .int j] ∧ (-(2 ^ 62) ≤ i ∧ i < 2 ^ 62 ∧ -(2 ^ 62) ≤ j ∧ j < 2 ^ 62) ∧ R (Itr i (j - i).toNat) H
theorem s_iRng2 {R : It → Hp → Prop} (k : t σ H fun vs H1 => ItR2 vs H1 R) : iRng2 t σ H R := k
theorem s_itR2 {R : It → Hp → Prop} (h1 : -(2 ^ 62) ≤ i) (h2 : i < 2 ^ 62) (h3 : -(2 ^ 62) ≤ j) (h4 : j < 2 ^ 62) (k : R (Itr i (j - i).toNat) H) : ItR2 [.int i, .int j] H R := ⟨i, j, rfl, ⟨h1, h2, h3, h4⟩, k⟩
theorem s_forR2 {lo : Int} {n : Nat} (Pv : Nat → L2.St → List Cell → Prop) (B : Own H0 H T L) (start : Pv 0 σ L)
    (turn : ∀ i σ L H, i < n → Pv i σ L → Own H0 H T L → g (.int (lo + (i : Int))) σ H fun σ2 H2 => s { D with nx := Inn H0 T (Pv (i + 1)), ct := Inn H0 T (Pv (i + 1)), bk := D.nx } σ2 H2)
    (last : ∀ σ L H, Pv n σ L → Own H0 H T L → D.nx σ H) : ForG (Itr lo n) g s D σ H :=
  for_range (lo := lo) (n := n) (fun i => Inn H0 T (Pv i)) ⟨L, start, B⟩ (fun i σ H hi ⟨L, h, B⟩ => turn i σ L H hi h B) (fun σ H ⟨L, h, B⟩ => last σ L H h B)
end
end My
namespace My
open PySem PySem.Spec PyProof.Rows L2 LamX
local macro_rules | `(tactic| infer_instance) => `(tactic| first
  | with_reducible refine s_var (by with_unfolding_all exact rfl) ?_
  | with_reducible apply s_C
  | with_reducible apply s_op
  | with_reducible apply s_i0
  | with_reducible apply s_seq
  | with_reducible apply s_asg
  | with_reducible apply s_gn
  | with_reducible apply s_nil
  | with_reducible apply s_cons
  | with_reducible apply s_cb
  | with_reducible apply s_call
  | with_reducible apply s_un
  | with_reducible apply s_u
  | with_reducible apply s_test
  | with_reducible apply s_blV
  | with_reducible apply s_eqI
  | with_reducible apply s_neI
  | with_reducible apply s_ifs
  | with_reducible apply s_drop
  | with_reducible apply s_ret
  | with_reducible apply s_lst
  | with_reducible apply s_tup
  | with_reducible apply s_and
  | with_reducible apply s_or
  | with_reducible apply s_not
  | with_reducible apply s_tB
  | with_reducible apply s_bm
  | with_reducible apply s_bm0
  | with_reducible apply s_for
  | with_reducible apply s_iList
  | with_reducible apply s_iTup
  | with_reducible apply s_mndS
  | with_reducible apply s_srtS
  | with_reducible apply s_lc2S
  | with_reducible apply s_remS
  | with_reducible apply s_iRng
  | with_reducible apply s_iEnum
  | with_reducible apply s_iRng3
  | with_reducible apply s_iZip
  | with_reducible apply s_iZip3
  | with_reducible apply s_iRev
  | with_reducible apply s_get2S
  | with_reducible apply s_iEZ
  | with_reducible apply s_sl
  | with_reducible apply s_noPart
  | with_reducible apply s_part
  | with_reducible apply s_partI
  | with_reducible apply s_neS
  | with_reducible apply s_eqS
  | with_reducible apply s_lc
  | with_reducible apply s_dc
  | with_reducible apply s_dg
  | with_reducible apply s_di
  | with_reducible apply s_dni
  | with_reducible apply s_yes
  | with_reducible apply s_chain
  | with_reducible refine s_aug (by with_unfolding_all exact rfl) ?_
  | with_reducible apply s_ip
  | with_reducible apply s_revL
  | with_reducible apply s_gsub
  | with_reducible apply s_gslc
  | with_reducible apply s_parS
  | with_reducible apply s_par
  | with_reducible apply s_gc
  | with_reducible apply s_gnil
  | with_reducible apply s_brk
  | with_reducible apply s_cnt
  | with_reducible apply s_next
  | with_reducible apply s_andV
  | with_reducible apply s_orV
  | with_reducible apply s_notV
  | with_reducible apply s_isB
  | with_reducible apply s_notB
  | with_reducible apply s_max2
  | with_reducible apply s_min2
  | with_reducible apply s_abs
  | with_reducible apply s_intB
  | (with_reducible refine s_len (by assumption) ?_)
  | (with_reducible refine s_lenF (by assumption) ?_)
  | (with_reducible refine s_ty (by assumption) ?_)
  | (with_reducible refine s_tyF (by assumption) ?_)
  | (with_reducible refine s_i (by first | decide | exact cpow_ok (by decide) (by decide) (by decide) | exact cdivw (by decide) (by decide) | exact cmul_l (by decide) (by decide) | exact cmul_r (by decide) (by decide) | omega | exact cmul_l (by omega) (by omega) | exact cmul_r (by omega) (by omega)) ?_))

abbrev nLawMultinomial : List Str := ["parts", "found", "done", "part", "one"]
theorem scLawMultinomial : FnScope nLawMultinomial ["parts"] (defScope sLawMultinomial) := ⟨rfl, rfl, rfl, by decide +kernel, rfl, by decide +kernel, by decide +kernel⟩

abbrev nLawParts : List Str := ["can", "way", "k", "gaps"]
theorem scLawParts : FnScope nLawParts ["can"] (defScope sLawParts) := ⟨rfl, rfl, rfl, by decide +kernel, rfl, by decide +kernel, by decide +kernel⟩

theorem nis_app (xs ys : List Nat) : (nis xs).map V.int ++ (nis ys).map V.int = (nis (xs ++ ys)).map V.int := by
  unfold nis; rw [List.map_append, List.map_append]
theorem nis_rep (n : Nat) : (List.replicate n [V.int 0]).flatten = (nis (List.replicate n 0)).map V.int := by
  rw [flat_repl1]
  unfold nis
  rw [List.map_replicate, List.map_replicate]; rfl
theorem nis_len (xs : List Nat) : ((nis xs).map V.int).length = xs.length := by unfold nis; rw [List.length_map, List.length_map]
theorem rep_zero {n : Nat} : ∀ x ∈ List.replicate n 0, x = 0 := fun x hx => List.eq_of_mem_replicate hx
/-- a list whose members are zeros is so many zeros -/
theorem zeros_of {ys : List V} (h : ∀ y ∈ ys, y = V.int 0) : ys = (nis (List.replicate ys.length 0)).map V.int := by
  unfold nis
  rw [List.map_replicate, List.map_replicate]
  exact List.eq_replicate_iff.mpr ⟨rfl, h⟩
theorem zero_mem {n : Nat} {y : V} (h : y ∈ (nis (List.replicate n 0)).map V.int) : y = V.int 0 := by
  unfold nis at h
  rw [List.map_replicate, List.map_replicate] at h
  exact List.eq_of_mem_replicate h
theorem map2_zero {xs : List Nat} (h : ∀ x ∈ xs, x = 0) : ∀ x ∈ xs.map (· * 2), x = 0 := fun x hx => by
  obtain ⟨y, hy, rfl⟩ := List.mem_map.mp hx
  rw [h y hy]
section
variable {P : Program} {w : World} {K : PySem.W.Frag} {mg : Str → Option Value} {base : Heap}
def spLawParts : Sp := fun vs H Q _ => ∃ (H0 : Hp) (T : List (Addr × Str)) (L : List Cell) (D : Addr) (n : Nat), vs = [.ref D] ∧ Own H0 H T (.pr D (CanO n) :: L) ∧ n ≤ 800000 ∧
  ∀ p (ps : List Nat) H', Pt ps → Own H0 H' T (.ob p (.lst ((nis ps).map V.int)) :: .pr D (CanO (n + 20)) :: L) → Q (.ref p) H'
set_option maxHeartbeats 0 in
theorem ok_LawParts {f : Addr} {fd : FuncData} {k : Nat} (F : Fun K "_law_parts" "_law_parts" sLawParts f fd) (Tx : Txt mg) (C__law_scoop : Cal P w K mg base k "_law_scoop" ["can", "many"] spLawScoop) : FnOk P w K mg base CX0 (k + 1) f fd ["can"] spLawParts := by
  refine F.ok scLawParts (fun vs H Q E h => ?_) (fun cdv A outer s H vs Q E hr h => ?_)
  · obtain ⟨_, _, _, D, n, rfl, _⟩ := h
    rfl
  · obtain ⟨H0, T, L, D, n, rfl, B, hn, q⟩ := h
    refine ⟨_, (pss_cons (ps_set (i := 1) scLawParts.nd rfl (.inl rfl) (pe_cal C__law_scoop hr (by rfl) (pa_cons (pv 0) (pa_cons pe_int pa_nil))))
 (pss_cons (ps_if (pt_cmpR op_eq (pv 1) pe_int (by rfl))
  (pss_one (ps_ret (pe_op op_cat (pe_lc (te := (tCall spLawScoop [] E0 (tCons (tVar 0) (tCons (tC (.int 2)) tNil)))) (tt := tYes) (own := [("k", 2)]) (g := (gName 2)) (by rfl) scLawParts.nd (pi_range1 (by rfl) Tx.range (pa_cons pe_int pa_nil)) (blkOk_by (own := [("k", 2)]) (N := nLawParts) (sc := defScope sLawParts) (by decide +kernel)) (fun _ _ _ _ _ => (pg_name (i := 2) scLawParts.nd rfl (Or.inl rfl))) (fun _ _ _ _ _ => pts_nil) (fun _ _ _ _ _ => (pe_cal C__law_scoop hr (by rfl) (pa_cons (pv 0) (pa_cons pe_int pa_nil))))) (pe_op op_rep (pe_lst (pa_cons pe_int pa_nil)) (pe_cal C__law_scoop hr (by rfl) (pa_cons (pv 0) (pa_cons pe_int pa_nil))))))) pss_nil)
 (pss_cons (ps_if (pt_cmpR op_eq (pv 1) pe_int (by rfl))
  (pss_one (ps_ret (pe_lst (pa_cons (pe_cal C__law_scoop hr (by rfl) (pa_cons (pv 0) (pa_cons pe_int pa_nil))) (pa_cons (pe_cal C__law_scoop hr (by rfl) (pa_cons (pv 0) (pa_cons pe_int pa_nil))) pa_nil))))) pss_nil)
 (pss_cons (ps_if (pt_cmpR op_eq (pv 1) pe_int (by rfl))
  (pss_one (ps_ret (pe_lc (te := (tCall spLawScoop [] E0 (tCons (tVar 0) (tCons (tC (.int 12)) tNil)))) (tt := tYes) (own := [("k", 2)]) (g := (gName 2)) (by rfl) scLawParts.nd (pi_range1 (by rfl) Tx.range (pa_cons pe_int pa_nil)) (blkOk_by (own := [("k", 2)]) (N := nLawParts) (sc := defScope sLawParts) (by decide +kernel)) (fun _ _ _ _ _ => (pg_name (i := 2) scLawParts.nd rfl (Or.inl rfl))) (fun _ _ _ _ _ => pts_nil) (fun _ _ _ _ _ => (pe_cal C__law_scoop hr (by rfl) (pa_cons (pv 0) (pa_cons pe_int pa_nil))))))) pss_nil)
 (pss_cons (ps_set (i := 3) scLawParts.nd rfl (.inl rfl) (pe_op op_rep (pe_lst (pa_cons pe_int pa_nil)) (pe_cal C__law_scoop hr (by rfl) (pa_cons (pv 0) (pa_cons pe_int pa_nil)))))
 (pss_one (ps_ret (pe_op op_cat (pe_op op_cat (pv 3) (pe_lc (te := (tCall spLawScoop [] E0 (tCons (tVar 0) (tCons (tC (.int 5)) tNil)))) (tt := tYes) (own := [("k", 2)]) (g := (gName 2)) (by rfl) scLawParts.nd (pi_range1 (by rfl) Tx.range (pa_cons pe_int pa_nil)) (blkOk_by (own := [("k", 2)]) (N := nLawParts) (sc := defScope sLawParts) (by decide +kernel)) (fun _ _ _ _ _ => (pg_name (i := 2) scLawParts.nd rfl (Or.inl rfl))) (fun _ _ _ _ _ => pts_nil) (fun _ _ _ _ _ => (pe_cal C__law_scoop hr (by rfl) (pa_cons (pv 0) (pa_cons pe_int pa_nil)))))) (pe_step (by decide) (pv 3)))))))))), ?_⟩
    repeat infer_instance
    refine u_scoop B (by omega) (by decide) (by decide) fun way H B hway => ?_
    have B : Own H0 H T (.pr D (CanO (n + 1 + 0)) :: L) := B
    repeat infer_instance
    refine iteD (fun e0 => ?_) (fun e0 => ?_)
    · repeat infer_instance
      refine s_itR (by omega) (by omega) ?_
      refine s_lcR (fun i acc M => ∃ xs : List Nat, xs.length = i ∧ (∀ x ∈ xs, x ≤ 1) ∧ acc = (nis xs).map V.int ∧ M = .pr D (CanO (n + 1 + i)) :: L) B ⟨[], rfl, (fun _ h => nomatch h), rfl, rfl⟩ (fun _ => rfl) ?_ ?_
      · rintro E1 i acc M H hi ⟨xs, hl, hx, rfl, rfl⟩ B
        repeat infer_instance
        refine iteT ?_
        repeat infer_instance
        refine u_scoop B (by omega) (by decide) (by decide) fun v H B hv => ?_
        refine s_el (M := .pr D (CanO (n + 1 + (i + 1))) :: L) B (by rw [nis_len, hl]; unfold sizeLine; omega) ⟨xs ++ [v], by rw [List.length_append, hl]; rfl, fun x h => ?_, (nis_app xs [v]).symm ▸ rfl, rfl⟩
        rcases List.mem_append.mp h with h | h
        · exact hx x h
        · rw [List.mem_singleton.mp h]; omega
      rintro xp acc M H ⟨xs, hl, hx, rfl, rfl⟩ B
      repeat infer_instance
      refine s_newL B (show 1 ≤ sizeLine from by decide) fun z0 H B => ?_
      repeat infer_instance
      refine u_scoop B (by omega) (by decide) (by decide) fun z H B hz => ?_
      repeat infer_instance
      refine s_rpt B (B.get z0) (by omega) (by omega) (by rw [Int.toNat_natCast]; simp only [List.length_cons, List.length_nil]; unfold sizeLine; omega) fun zp H B => ?_
      rw [Int.toNat_natCast, nis_rep] at B
      repeat infer_instance
      refine s_cat B (B.get xp) (B.get zp) (by rw [nis_len, nis_len, List.length_replicate]; unfold sizeLine; omega) fun rp H B => ?_
      rw [nis_app] at B
      have hl : xs.length = 10 := hl
      have hsum := sum_le hx
      have hz0 := rep_zero (n := z)
      refine q rp (xs ++ List.replicate z 0) H ⟨by rw [List.length_append]; omega, by rw [List.length_append, List.length_replicate]; omega, ?_, ?_, fun h => ?_, many_of (z := 10) (S := 10) ?_ ?_ (by decide)⟩ (B.upD D (show _ ≤ n + 20 by omega)).arr
      · rw [List.sum_append, sum_zeros hz0]; omega
      · rw [wgt_appL, wgt_zeros _ hz0]
        refine Nat.le_trans (wgt_le 1 hx) ?_
        rw [hl]; decide
      · rw [List.length_append] at h; omega
      · rw [nz_app, nz_zeros hz0]; have := nz_le xs; omega
      · rw [List.sum_append, sum_zeros hz0]; omega
    repeat infer_instance
    refine iteD (fun e1 => ?_) (fun e1 => ?_)
    · repeat infer_instance
      refine u_scoop B (by omega) (by decide) (by decide) fun x H B hx => ?_
      repeat infer_instance
      refine u_scoop B (by omega) (by decide) (by decide) fun y H B hy => ?_
      repeat infer_instance
      refine s_newL B (show 2 ≤ sizeLine from by decide) fun rp H B => ?_
      rw [show [V.int (x : Int), V.int (y : Int)] = (nis [x, y]).map V.int from rfl] at B
      have hm : ∀ z ∈ [x, y], z ≤ 36 := fun z hz => by
        rcases List.mem_cons.mp hz with rfl | hz
        · omega
        · rw [List.mem_singleton.mp hz]; omega
      have hm2 : ∀ z ∈ [x, y].map (· * 2), z ≤ 72 := fun z hz => by
        obtain ⟨u, hu, rfl⟩ := List.mem_map.mp hz
        have := hm u hu
        show u * 2 ≤ 72
        omega
      refine q rp [x, y] H ⟨by simp, by simp, by simp; omega, Nat.le_trans (wgt_le 1 hm) (by simp), fun _ => Nat.le_trans (wgt_le 1 hm2) (by simp), many_of (z := 2) (S := 72) (nz_le _) (by simp; omega) (by decide)⟩ (B.upD D (show _ ≤ n + 20 by omega)).arr
    repeat infer_instance
    refine iteD (fun e2 => ?_) (fun e2 => ?_)
    · repeat infer_instance
      refine s_itR (by omega) (by omega) ?_
      refine s_lcR (fun i acc M => ∃ xs : List Nat, xs.length = i ∧ (∀ x ∈ xs, x ≤ 11) ∧ acc = (nis xs).map V.int ∧ M = .pr D (CanO (n + 1 + i)) :: L) B ⟨[], rfl, (fun _ h => nomatch h), rfl, rfl⟩ (fun _ => rfl) ?_ ?_
      · rintro E1 i acc M H hi ⟨xs, hl, hx, rfl, rfl⟩ B
        repeat infer_instance
        refine iteT ?_
        repeat infer_instance
        refine u_scoop B (by omega) (by decide) (by decide) fun v H B hv => ?_
        refine s_el (M := .pr D (CanO (n + 1 + (i + 1))) :: L) B (by rw [nis_len, hl]; unfold sizeLine; omega) ⟨xs ++ [v], by rw [List.length_append, hl]; rfl, fun x h => ?_, (nis_app xs [v]).symm ▸ rfl, rfl⟩
        rcases List.mem_append.mp h with h | h
        · exact hx x h
        · rw [List.mem_singleton.mp h]; omega
      rintro xp acc M H ⟨xs, hl, hx, rfl, rfl⟩ B
      have hl : xs.length = 3 := hl
      have hsum := sum_le hx
      have hm2 : ∀ z ∈ xs.map (· * 2), z ≤ 22 := fun z hz => by
        obtain ⟨u, hu, rfl⟩ := List.mem_map.mp hz
        have := hx u hu
        show u * 2 ≤ 22
        omega
      refine q xp xs H ⟨by omega, by omega, by omega, ?_, fun _ => ?_, many_of (z := 3) (S := 33) (by have := nz_le xs; omega) (by omega) (by decide)⟩ (B.upD D (show _ ≤ n + 20 by omega)).arr
      · refine Nat.le_trans (wgt_le 1 hx) ?_
        rw [hl]; decide
      · refine Nat.le_trans (wgt_le 1 hm2) ?_
        rw [List.length_map, hl]; decide
    · repeat infer_instance
      refine s_newL B (show 1 ≤ sizeLine from by decide) fun z0 H B => ?_
      repeat infer_instance
      refine u_scoop B (by omega) (by decide) (by decide) fun z H B hz => ?_
      repeat infer_instance
      refine s_rpt B (B.get z0) (by omega) (by omega) (by rw [Int.toNat_natCast]; simp only [List.length_cons, List.length_nil]; unfold sizeLine; omega) fun gp H B => ?_
      rw [Int.toNat_natCast, nis_rep] at B
      have B : Own H0 H T (.ob gp (.lst ((nis (List.replicate z 0)).map V.int)) :: .pr D (CanO (n + 2 + 0)) :: L) := (B.upD D (show _ ≤ n + 2 + 0 by omega)).arr
      repeat infer_instance
      refine s_itR (by omega) (by omega) ?_
      refine s_lcR (fun i acc M => ∃ xs : List Nat, xs.length = i ∧ (∀ x ∈ xs, x ≤ 4) ∧ acc = (nis xs).map V.int ∧ M = .ob gp (.lst ((nis (List.replicate z 0)).map V.int)) :: .pr D (CanO (n + 2 + i)) :: L) B ⟨[], rfl, (fun _ h => nomatch h), rfl, rfl⟩ (fun _ => rfl) ?_ ?_
      · rintro E1 i acc M H hi ⟨xs, hl, hx, rfl, rfl⟩ B
        repeat infer_instance
        refine iteT ?_
        repeat infer_instance
        refine u_scoop B (by omega) (by decide) (by decide) fun v H B hv => ?_
        refine s_el (M := .ob gp (.lst ((nis (List.replicate z 0)).map V.int)) :: .pr D (CanO (n + 2 + (i + 1))) :: L) B (by rw [nis_len, hl]; unfold sizeLine; omega) ⟨xs ++ [v], by rw [List.length_append, hl]; rfl, fun x h => ?_, (nis_app xs [v]).symm ▸ rfl, rfl⟩
        rcases List.mem_append.mp h with h | h
        · exact hx x h
        · rw [List.mem_singleton.mp h]; omega
      rintro xp acc M H ⟨xs, hl, hx, rfl, rfl⟩ B
      have hl : xs.length = 4 := hl
      have hsum := sum_le hx
      have hz0 := rep_zero (n := z)
      repeat infer_instance
      refine s_cat B (B.get gp) (B.get xp) (by rw [nis_len, nis_len, List.length_replicate]; unfold sizeLine; omega) fun c1 H B => ?_
      rw [nis_app] at B
      repeat infer_instance
      refine s_stepS ?_
      repeat infer_instance
      refine s_step (ns := nis (List.replicate z 0)) B (B.get gp) fun st ys H hy1 hy2 B => ?_
      have ey : ys.map V.int = (nis (List.replicate ys.length 0)).map V.int := by
        unfold nis at hy1 ⊢
        rw [List.map_replicate, List.map_replicate]
        refine List.eq_replicate_iff.mpr ⟨by rw [List.length_map], fun y hy => ?_⟩
        obtain ⟨u, hu, rfl⟩ := List.mem_map.mp hy
        have h := hy1 u hu
        rw [List.map_replicate] at h
        rw [List.eq_of_mem_replicate h]
      rw [show (nis (List.replicate z 0)).length = z by unfold nis; rw [List.length_map, List.length_replicate]] at hy2
      rw [ey] at B
      have hz1 := rep_zero (n := ys.length)
      repeat infer_instance
      refine s_cat B (B.get c1) (B.get st) (by rw [nis_len, nis_len, List.length_append, List.length_replicate, List.length_replicate]; unfold sizeLine; omega) fun rp H B => ?_
      rw [nis_app] at B
      refine q rp (List.replicate z 0 ++ xs ++ List.replicate ys.length 0) H ⟨by rw [List.length_append, List.length_append]; omega, by rw [List.length_append, List.length_append, List.length_replicate, List.length_replicate]; omega, ?_, ?_, fun h => ?_, many_of (z := 4) (S := 16) ?_ ?_ (by decide)⟩ (B.upD D (show _ ≤ n + 20 by omega)).arr
      · rw [List.sum_append, List.sum_append, sum_zeros hz0, sum_zeros hz1]; omega
      · rw [wgt_appL, wgt_appL, wgt_zeros _ hz1, wgt_zeros _ hz0]
        refine Nat.le_trans (wgt_le 1 hx) ?_
        rw [hl]; decide
      · rw [List.length_append, List.length_append] at h; omega
      · rw [nz_app, nz_app, nz_zeros hz0, nz_zeros hz1]; have := nz_le xs; omega
      · rw [List.sum_append, List.sum_append, sum_zeros hz0, sum_zeros hz1]; omega
def spLawMultinomial : Sp := fun vs H Q _ => ∃ (H0 : Hp) (T : List (Addr × Str)) (L : List Cell) (a : Addr) (ps : List Nat), vs = [.ref a] ∧ Own H0 H T L ∧ (∀ H', Own H0 H' T L → H' a = some (.lst ((nis ps).map V.int))) ∧ ps.sum ≤ 72 ∧
  ∀ H', Own H0 H' T L → Q (.int ((mulS 0 ps : Nat) : Int)) H'
set_option maxHeartbeats 0 in
theorem ok_LawMultinomial {f : Addr} {fd : FuncData} {k : Nat} (F : Fun K "_law_multinomial" "_law_multinomial" sLawMultinomial f fd) (Tx : Txt mg)  : FnOk P w K mg base CX0 (k + 1) f fd ["parts"] spLawMultinomial := by
  refine F.ok scLawMultinomial (fun vs H Q E h => ?_) (fun cdv A outer s H vs Q E hr h => ?_)
  · obtain ⟨_, _, _, a, ps, rfl, _⟩ := h
    rfl
  · obtain ⟨H0, T, L, a, ps, rfl, B, hA, hs, q⟩ := h
    refine ⟨_, (pss_cons (ps_asg (pe_tup (pa_cons pe_int (pa_cons pe_int pa_nil))) (pg_tup (by rfl) (pgs_cons (pg_name (i := 1) scLawMultinomial.nd rfl (Or.inl rfl)) (pgs_cons (pg_name (i := 2) scLawMultinomial.nd rfl (Or.inl rfl)) pgs_nil))))
 (pss_cons (ps_for PassesOwn.never rfl (pi_list (pv 0)) (pg_name (i := 3) scLawMultinomial.nd rfl (Or.inl rfl))
  (pss_one (ps_for PassesOwn.never rfl (pi_range2 (by rfl) Tx.range (pa_cons pe_int (pa_cons (pe_op op_add (pv 3) pe_int) pa_nil))) (pg_name (i := 4) scLawMultinomial.nd rfl (Or.inl rfl))
  (pss_cons (ps_set (i := 2) scLawMultinomial.nd rfl (.inl rfl) (pe_op op_add (pv 2) pe_int))
 (pss_one (ps_set (i := 1) scLawMultinomial.nd rfl (.inl rfl) (pe_op op_fdivW (pe_op op_mul (pv 1) (pv 2)) (pv 4))))))))
 (pss_one (ps_ret (pv 1))))), ?_⟩
    repeat infer_instance
    refine s_newT B (show 2 ≤ sizeLine from by decide) fun t0 H B => ?_
    repeat infer_instance
    refine s_gt B rfl ?_
    have B := B.tail
    repeat infer_instance
    refine s_itH (hA _ B) ?_
    refine s_forL (fun i σ M => ∃ (f : Nat) (y3 y4 : Option V), σ = [some (.ref a), some (.int (f : Int)), some (.int (((ps.take i).sum : Nat) : Int)), y3, y4] ∧ f * mulS (ps.take i).sum (ps.drop i) = mulS 0 ps ∧ M = L) ((nis ps).map V.int) B ⟨1, none, none, rfl, by rw [Nat.one_mul]; rfl, rfl⟩ ?_ ?_ ?_
    · rintro i σ M H ⟨f, y3, y4, _, _, rfl⟩ B
      exact SqL.of (hA _ B)
    · rintro i x σ N H hx ⟨f, y3, y4, rfl, hf, rfl⟩ B
      unfold nis at hx
      rw [List.getElem?_map, List.getElem?_map] at hx
      obtain ⟨xi, hx1, rfl⟩ := Option.map_eq_some_iff.mp hx
      obtain ⟨p, hp, rfl⟩ := Option.map_eq_some_iff.mp hx1
      have hil := (List.getElem?_eq_some_iff.mp hp).1
      have est : (ps.take (i + 1)).sum = (ps.take i).sum + p := by rw [List.take_add_one, hp, List.sum_append]; simp
      have esd : ps.drop i = p :: ps.drop (i + 1) := by
        rw [List.drop_eq_getElem_cons hil]
        congr 1
        exact Option.some.inj ((List.getElem?_eq_getElem hil).symm.trans hp)
      have hle : (ps.take i).sum + p ≤ 72 := by
        have e2 : (ps.take (i + 1)).sum + (ps.drop (i + 1)).sum = ps.sum := by rw [← List.sum_append, List.take_append_drop]
        omega
      obtain ⟨d, hd⟩ : ∃ d, d = (ps.take i).sum := ⟨_, rfl⟩
      rw [← hd] at hf hle est ⊢
      repeat infer_instance
      refine s_iRng2 ?_
      repeat infer_instance
      refine s_itR2 (by omega) (by omega) (by omega) (by omega) ?_
      rw [show ((p : Int) + 1 - 1).toNat = p by omega]
      refine s_forR2 (fun t σ M => (∃ y4 : Option V, σ = [some (.ref a), some (.int ((f * c2 d t : Nat) : Int)), some (.int ((d + t : Nat) : Int)), some (.int (p : Int)), y4]) ∧ M = N) B ⟨⟨_, by rw [c2_zero, Nat.mul_one]; rfl⟩, rfl⟩ ?_ ?_
      · rintro t σ M H ht ⟨⟨y4, rfl⟩, rfl⟩ B
        have st : f * c2 d t * (d + t + 1) = f * c2 d (t + 1) * (t + 1) := by rw [Nat.mul_assoc, c2_step, ← Nat.mul_assoc]
        repeat infer_instance
        have e1 : ((f * c2 d t : Nat) : Int) * (((d + t : Nat) : Int) + 1) = ((f * c2 d (t + 1) : Nat) : Int) * (1 + (t : Int)) := by
          have h := congrArg (fun n : Nat => (n : Int)) st
          simp only [Int.natCast_mul, Int.natCast_add] at h ⊢
          rw [show (1 : Int) + (t : Int) = (t : Int) + ((1 : Nat) : Int) by omega]
          exact h
        rw [e1]
        refine s_i (cdivw (show (0 : Int) < 1 + (t : Int) by omega) (Nat.lt_trans ((Nat.log2_lt (by omega)).mpr (show (1 + (t : Int)).natAbs < 2 ^ 20 by omega)) (by decide))) ?_
        rw [Int.mul_ediv_cancel _ (show (1 + (t : Int)) ≠ 0 by omega)]
        repeat infer_instance
        exact s_inn B ⟨⟨_, by rw [show ((d + (t + 1) : Nat) : Int) = ((d + t : Nat) : Int) + 1 by omega]; rfl⟩, rfl⟩
      rintro σ M H ⟨⟨y4, rfl⟩, rfl⟩ B
      refine s_inn B ⟨f * c2 d p, _, _, by rw [est], ?_, rfl⟩
      rw [est, Nat.mul_assoc]
      rw [esd] at hf
      exact hf
    · rintro σ M H ⟨f, y3, y4, rfl, hf, rfl⟩ B
      rw [show ((nis ps).map V.int).length = ps.length by unfold nis; rw [List.length_map, List.length_map], List.take_length, List.drop_length] at hf
      have hf : f * 1 = mulS 0 ps := hf
      rw [Nat.mul_one] at hf
      repeat infer_instance
      rw [hf]
      exact q H B
end
end My
namespace My
open PySem PySem.Spec PyProof.Rows L2 LamX
local macro_rules | `(tactic| infer_instance) => `(tactic| first
  | with_reducible refine s_var (by with_unfolding_all exact rfl) ?_
  | with_reducible apply s_C
  | with_reducible apply s_op
  | with_reducible apply s_i0
  | with_reducible apply s_seq
  | with_reducible apply s_asg
  | with_reducible apply s_gn
  | with_reducible apply s_nil
  | with_reducible apply s_cons
  | with_reducible apply s_cb
  | with_reducible apply s_call
  | with_reducible apply s_un
  | with_reducible apply s_u
  | with_reducible apply s_test
  | with_reducible apply s_blV
  | with_reducible apply s_eqI
  | with_reducible apply s_neI
  | with_reducible apply s_ifs
  | with_reducible apply s_drop
  | with_reducible apply s_ret
  | with_reducible apply s_lst
  | with_reducible apply s_tup
  | with_reducible apply s_and
  | with_reducible apply s_or
  | with_reducible apply s_not
  | with_reducible apply s_tB
  | with_reducible apply s_bm
  | with_reducible apply s_bm0
  | with_reducible apply s_for
  | with_reducible apply s_iList
  | with_reducible apply s_iTup
  | with_reducible apply s_mndS
  | with_reducible apply s_srtS
  | with_reducible apply s_lc2S
  | with_reducible apply s_remS
  | with_reducible apply s_iRng
  | with_reducible apply s_iEnum
  | with_reducible apply s_iRng3
  | with_reducible apply s_iZip
  | with_reducible apply s_iZip3
  | with_reducible apply s_iRev
  | with_reducible apply s_get2S
  | with_reducible apply s_iEZ
  | with_reducible apply s_sl
  | with_reducible apply s_noPart
  | with_reducible apply s_part
  | with_reducible apply s_partI
  | with_reducible apply s_neS
  | with_reducible apply s_eqS
  | with_reducible apply s_lc
  | with_reducible apply s_dc
  | with_reducible apply s_dg
  | with_reducible apply s_di
  | with_reducible apply s_dni
  | with_reducible apply s_yes
  | with_reducible apply s_chain
  | with_reducible refine s_aug (by with_unfolding_all exact rfl) ?_
  | with_reducible apply s_ip
  | with_reducible apply s_revL
  | with_reducible apply s_gsub
  | with_reducible apply s_gslc
  | with_reducible apply s_parS
  | with_reducible apply s_par
  | with_reducible apply s_gc
  | with_reducible apply s_gnil
  | with_reducible apply s_brk
  | with_reducible apply s_cnt
  | with_reducible apply s_next
  | with_reducible apply s_andV
  | with_reducible apply s_orV
  | with_reducible apply s_notV
  | with_reducible apply s_isB
  | with_reducible apply s_notB
  | with_reducible apply s_max2
  | with_reducible apply s_min2
  | with_reducible apply s_abs
  | with_reducible apply s_intB
  | (with_reducible refine s_len (by assumption) ?_)
  | (with_reducible refine s_lenF (by assumption) ?_)
  | (with_reducible refine s_ty (by assumption) ?_)
  | (with_reducible refine s_tyF (by assumption) ?_)
  | (with_reducible refine s_i (by first | decide | exact cpow_ok (by decide) (by decide) (by decide) | exact cdivw (by decide) (by decide) | exact cmul_l (by decide) (by decide) | exact cmul_r (by decide) (by decide) | omega | exact cmul_l (by omega) (by omega) | exact cmul_r (by omega) (by omega)) ?_))

abbrev nLawRight : List Str := ["can", "parts", "size", "lengths", "part", "result", "k", "many", "first", "last", "here", "length", "number", "some", "at", "family", "queue"]
theorem scLawRight : FnScope nLawRight ["can"] (defScope sLawRight) := ⟨rfl, rfl, rfl, by decide +kernel, rfl, by decide +kernel, by decide +kernel⟩

theorem nis_sum : ∀ ps : List Nat, (nis ps).sum = ((ps.sum : Nat) : Int)
  | [] => rfl
  | p :: ps => by
    show ((p : Int) :: nis ps).sum = _
    rw [List.sum_cons, nis_sum ps, List.sum_cons, Int.natCast_add]
theorem sum_mulS (s : Nat) : ∀ ps : List Nat, (ps.map (· * s)).sum = ps.sum * s
  | [] => by simp
  | p :: ps => by rw [List.map_cons, List.sum_cons, sum_mulS s ps, List.sum_cons, Nat.add_mul]
/-- a block of the law's result -/
def blk (s k : Nat) : List Int := ([10 * (k : Int) + 5, 10 * (k : Int)] : List Int).take s
def bks (s n : Nat) : List (List Int) := (List.range n).map (blk s)
theorem bks_len {s n : Nat} : (bks s n).length = n := by unfold bks; rw [List.length_map, List.length_range]
theorem bks_all {s n : Nat} (h : s = 1 ∨ s = 2) : ∀ b ∈ bks s n, b.length = s := fun b hb => by
  obtain ⟨k, _, rfl⟩ := List.mem_map.mp hb
  rcases h with rfl | rfl <;> rfl
theorem bks_ok {s n : Nat} (h : s = 1 ∨ s = 2) : Blks (bks s n) := by
  refine ⟨fun b hb => ?_, ?_⟩
  · obtain ⟨k, _, rfl⟩ := List.mem_map.mp hb
    rcases h with rfl | rfl
    · refine ⟨(fun z => by cases z), fun x hx => ?_⟩
      rw [List.mem_singleton.mp hx]; exact Int.le_refl _
    · refine ⟨(fun z => by cases z), fun x hx => ?_⟩
      show x ≤ 10 * (k : Int) + 5
      rcases List.mem_cons.mp hx with rfl | hx
      · exact Int.le_refl _
      · rw [List.mem_singleton.mp hx]; omega
  · unfold bks
    rw [List.pairwise_map]
    refine List.pairwise_lt_range.imp fun {i j} hij => ?_
    rcases h with rfl | rfl
    · show 10 * (i : Int) + 5 < 10 * (j : Int) + 5
      omega
    · show 10 * (i : Int) + 5 < 10 * (j : Int) + 5
      omega
theorem bks_nd {s n : Nat} (h : s = 1 ∨ s = 2) : (bks s n).flatten.Nodup := by
  unfold List.Nodup
  rw [List.pairwise_flatten]
  refine ⟨fun b hb => ?_, ?_⟩
  · obtain ⟨k, _, rfl⟩ := List.mem_map.mp hb
    rcases h with rfl | rfl
    · exact List.pairwise_singleton ..
    · refine List.pairwise_cons.mpr ⟨fun x hx => ?_, List.pairwise_singleton ..⟩
      rw [List.mem_singleton.mp hx]; omega
  · unfold bks
    rw [List.pairwise_map]
    refine List.pairwise_lt_range.imp fun {i j} hij x hx y hy => ?_
    have hx : x = 10 * (i : Int) + 5 ∨ x = 10 * (i : Int) := by
      rcases h with rfl | rfl
      · exact .inl (List.mem_singleton.mp hx)
      · rcases List.mem_cons.mp hx with h | h
        · exact .inl h
        · exact .inr (List.mem_singleton.mp h)
    have hy : y = 10 * (j : Int) + 5 ∨ y = 10 * (j : Int) := by
      rcases h with rfl | rfl
      · exact .inl (List.mem_singleton.mp hy)
      · rcases List.mem_cons.mp hy with h | h
        · exact .inl h
        · exact .inr (List.mem_singleton.mp h)
    omega
theorem bks_snoc (s n : Nat) : (bks s (n + 1)).flatten = (bks s n).flatten ++ blk s n := by
  unfold bks
  rw [List.range_succ, List.map_append, List.flatten_append]; simp
/-- the family of an assignment with the lengths -/
structure FamOf (ns : List Int) (ls as : List Nat) (f : List (List Int)) : Prop where
  fit : Fit f
  mg : mrg f = ns
  ln : f.map List.length = ls
  rk : rnk f = wr ls.length as
theorem fam_of {ns : List Int} {ls as : List Nat} (nd : ns.Nodup) (hl : ns.length ≤ 1000) (h1 : 1 ≤ ls.length) (h2 : ls.length ≤ 1000) (m : as ∈ allA ns ls) : FamOf ns ls as (spread ls.length (as.zip (cut ns))) := by
  obtain ⟨q1, q2, q3⟩ := (mem_asgL _ _ _).mp m
  have q1 : as.length = (cut ns).length := by rw [q1]; exact List.length_map ..
  have hlt : ∀ w ∈ as.zip (cut ns), w.1 < ls.length := fun w hw => q2 _ (List.of_mem_zip hw).1
  have es : (as.zip (cut ns)).map (·.2) = cut ns := List.map_snd_zip (by omega)
  have ef : (as.zip (cut ns)).map (·.1) = as := List.map_fst_zip (by omega)
  have pf : (spread ls.length (as.zip (cut ns))).flatten.Perm ns := by
    refine (spread_flat hlt).trans ?_
    rw [es, (good_cut ns).flat]
  have sl : (spread ls.length (as.zip (cut ns))).length = ls.length := spread_len _ _
  have ss : srt (spread ls.length (as.zip (cut ns))) = as.zip (cut ns) := spread_srt (by rw [es]; exact Blks.cut _) hlt
  refine ⟨⟨fun z => by rw [z] at sl; simp at sl; omega, pf.nodup_iff.mpr nd, by rw [pf.length_eq]; omega, by omega⟩, ?_, ?_, ?_⟩
  · have h := srt_flat (pf.nodup_iff.mpr nd)
    rw [ss, es, (good_cut ns).flat] at h
    exact h.symm
  · rw [lens_spreadN]
    refine List.ext_getElem? fun j => ?_
    rw [List.getElem?_map]
    by_cases hj : j < ls.length
    · rw [List.getElem?_range hj, Option.map_some]
      have q := q3 j
      rw [List.getD_eq_getElem?_getD, List.getElem?_eq_getElem hj] at q
      rw [List.getElem?_eq_getElem hj]
      exact congrArg some q
    · rw [List.getElem?_eq_none (by rw [List.length_range]; omega), List.getElem?_eq_none (by omega)]; rfl
  · unfold rnk
    rw [ss, sl, ef]
theorem row_snoc {rs : List (List Int)} {i : Nat} {r : List Int} (h : rs[i]? = some r) : vv (rs.take i) ++ [r.map V.int] = vv (rs.take (i + 1)) := by
  rw [List.take_add_one, h, vv_app]; rfl
section
variable {P : Program} {w : World} {K : PySem.W.Frag} {mg : Str → Option Value} {base : Heap}
def spRightK (T : List (Addr × Str)) : Sp := fun vs H Q _ => ∃ (H0 : Hp) (L : List Cell) (D : Addr) (n : Nat), vs = [.ref D] ∧ Own H0 H T (.pr D (CanO n) :: L) ∧ n ≤ 700000 ∧
  ∀ H', Own H0 H' T (.pr D (CanO (n + 30)) :: L) → Q (.bl true) H'
set_option maxHeartbeats 0 in
theorem ok_LawRight {T : List (Addr × Str)} {f : Addr} {fd : FuncData} {k : Nat} (F : Fun K "_law_right" "_law_right" sLawRight f fd) (Tx : Txt mg) (C_merged : Cal P w K mg base k "merged" ["family"] (spMergedA T)) (C_rank_of : Cal P w K mg base k "rank_of" ["family"] (spRankOf T)) (C_count_with_lengths : Cal P w K mg base k "count_with_lengths" ["result", "lengths"] spCountWithLengths) (C_nth_with_lengths : Cal P w K mg base k "nth_with_lengths" ["result", "lengths", "number"] spNthWithLengths) (C__law_scoop : Cal P w K mg base k "_law_scoop" ["can", "many"] spLawScoop) (C__law_multinomial : Cal P w K mg base k "_law_multinomial" ["parts"] spLawMultinomial) (C__law_parts : Cal P w K mg base k "_law_parts" ["can"] spLawParts) : FnOk P w K mg base CX0 (k + 1) f fd ["can"] (spRightK T) := by
  refine F.ok scLawRight (fun vs H Q E h => ?_) (fun cdv A outer s H vs Q E hr h => ?_)
  · obtain ⟨_, _, D, n, rfl, _⟩ := h
    rfl
  · obtain ⟨H0, L, D, n, rfl, B, hn, q⟩ := h
    refine ⟨_, (pss_cons (ps_set (i := 1) scLawRight.nd rfl (.inl rfl) (pe_cal C__law_parts hr (by rfl) (pa_cons (pv 0) pa_nil)))
 (pss_cons (ps_set (i := 2) scLawRight.nd rfl (.inr rfl) (pe_op op_add pe_int (pe_op op_mul (pe_cal C__law_scoop hr (by rfl) (pa_cons (pv 0) (pa_cons pe_int pa_nil))) (pe_callTy (cl_int) (by rfl) Tx.int (by decide +kernel) (pa_cons (pe_cmpR op_lt (pe_callB (cl_len) (by rfl) Tx.len (by decide +kernel) (pa_cons (pv 1) pa_nil)) pe_int (by rfl)) pa_nil)))))
 (pss_cons (ps_set (i := 3) scLawRight.nd rfl (.inr rfl) (pe_lc (te := (tOp (rI CMul fun i j => .int (i * j)) (tVar 4) (tVar 2))) (tt := tYes) (own := [("part", 4)]) (g := (gName 4)) (by rfl) scLawRight.nd (pi_list (pv 1)) (blkOk_by (own := [("part", 4)]) (N := nLawRight) (sc := defScope sLawRight) (by decide +kernel)) (fun _ _ _ _ _ => (pg_name (i := 4) scLawRight.nd rfl (Or.inl rfl))) (fun _ _ _ _ _ => pts_nil) (fun _ _ _ _ _ => (pe_op op_mul (pv 4) (pv 2)))))
 (pss_cons (ps_set (i := 5) scLawRight.nd rfl (.inr rfl) (pe_lst pa_nil))
 (pss_cons (ps_for PassesOwn.never rfl (pi_range1 (by rfl) Tx.range (pa_cons (pe_callB ((cr_sum (by rfl))) (by rfl) Tx.sum (by decide +kernel) (pa_cons (pv 1) pa_nil)) pa_nil)) (pg_name (i := 6) scLawRight.nd rfl (Or.inl rfl))
  (pss_one (ps_expr (pe_bm PySem.F.plainAttrs_list PySem.F.slot_list_extend PySem.F.type_list_extend mt_extend (pv 5) (pa_cons (pe_slice sl_list (pe_lst (pa_cons (pe_op op_add (pe_op op_mul pe_int (pv 6)) pe_int) (pa_cons (pe_op op_mul pe_int (pv 6)) pa_nil))) po_none (po_some (pv 2))) pa_nil)))))
 (pss_cons (ps_set (i := 7) scLawRight.nd rfl (.inl rfl) (pe_cal C_count_with_lengths hr (by rfl) (pa_cons (pv 5) (pa_cons (pv 3) pa_nil))))
 (pss_cons (ps_if (pt_cmpR op_ne (pv 7) (pe_cal C__law_multinomial hr (by rfl) (pa_cons (pv 1) pa_nil)) (nomark _))
  (pss_one (ps_ret pe_bl)) pss_nil)
 (pss_cons (ps_par3 (i := 8) (j := 9) (l := 10) (by rfl) scLawRight.nd rfl rfl rfl (by decide) (by decide) (by decide) rfl rfl rfl (pa_cons (pe_lst pa_nil) (pa_cons (pe_lst pa_nil) (pa_cons pe_int pa_nil))) (by rfl))
 (pss_cons (ps_for PassesOwn.never rfl (pi_list (pv 3)) (pg_name (i := 11) scLawRight.nd rfl (Or.inl rfl))
  (pss_cons (ps_expr (pe_bm PySem.F.plainAttrs_list PySem.F.slot_list_append PySem.F.type_list_append mt_append (pv 8) (pa_cons (pe_slice sl_list (pv 5) (po_some (pv 10)) (po_some (pe_op op_add (pv 10) (pv 11)))) pa_nil)))
 (pss_one (ps_set (i := 10) scLawRight.nd rfl (.inl rfl) (pe_op op_add (pv 10) (pv 11))))))
 (pss_cons (ps_set (i := 10) scLawRight.nd rfl (.inl rfl) (pe_callB (cl_len) (by rfl) Tx.len (by decide +kernel) (pa_cons (pv 5) pa_nil)))
 (pss_cons (ps_for PassesOwn.never rfl (pi_list (pv 3)) (pg_name (i := 11) scLawRight.nd rfl (Or.inl rfl))
  (pss_cons (ps_expr (pe_bm PySem.F.plainAttrs_list PySem.F.slot_list_append PySem.F.type_list_append mt_append (pv 9) (pa_cons (pe_slice sl_list (pv 5) (po_some (pe_op op_sub (pv 10) (pv 11))) (po_some (pv 10))) pa_nil)))
 (pss_one (ps_set (i := 10) scLawRight.nd rfl (.inl rfl) (pe_op op_sub (pv 10) (pv 11))))))
 (pss_cons (ps_if (PW.pt (pw_or (pt_cmpR (op_neD hr.units) (pe_cal C_nth_with_lengths hr (by rfl) (pa_cons (pv 5) (pa_cons (pv 3) (pa_cons pe_int pa_nil)))) (pv 8) (by rfl)) (pw_or1 (pt_cmpR (op_neD hr.units) (pe_cal C_nth_with_lengths hr (by rfl) (pa_cons (pv 5) (pa_cons (pv 3) (pa_cons (pe_op op_sub (pv 7) pe_int) pa_nil)))) (pv 9) (by rfl)))))
  (pss_one (ps_ret pe_bl)) pss_nil)
 (pss_cons (ps_set (i := 12) scLawRight.nd rfl (.inl rfl) (pe_cal C__law_scoop hr (by rfl) (pa_cons (pv 0) (pa_cons (pv 7) pa_nil))))
 (pss_cons (ps_setLc (i := 13) (te := (tCall spNthWithLengths [] E0 (tCons (tVar 5) (tCons (tVar 3) (tCons (tVar 14) tNil))))) (tt := tYes) (own := [("at", 14)]) (g := (gName 14)) (by rfl) scLawRight.nd rfl rfl (sw_true rfl rfl rfl (by decide +kernel)) (pi_list (pe_lst (pa_cons (pv 12) (pa_cons (pe_callB (cl_min2 (by rfl)) (by rfl) Tx.min (by decide +kernel) (pa_cons (pe_op op_add (pv 12) pe_int) (pa_cons (pe_op op_sub (pv 7) pe_int) pa_nil))) pa_nil)))) (blkOk_by (own := [("at", 14)]) (N := nLawRight) (sc := defScope sLawRight) (by decide +kernel)) (fun _ _ _ _ _ => (pg_name (i := 14) scLawRight.nd rfl (Or.inl rfl))) (fun _ _ _ _ _ => pts_nil) (fun _ _ _ _ _ => (pe_cal C_nth_with_lengths hr (by rfl) (pa_cons (pv 5) (pa_cons (pv 3) (pa_cons (pv 14) pa_nil))))))
 (pss_cons (ps_if (pt_cmpR (op_neD hr.units) (pe_lc (te := (tCall (spMergedA T) [] E0 (tCons (tVar 15) tNil))) (tt := tYes) (own := [("family", 15)]) (g := (gName 15)) (by rfl) scLawRight.nd (pi_list (pv 13)) (blkOk_by (own := [("family", 15)]) (N := nLawRight) (sc := defScope sLawRight) (by decide +kernel)) (fun _ _ _ _ _ => (pg_name (i := 15) scLawRight.nd rfl (Or.inl rfl))) (fun _ _ _ _ _ => pts_nil) (fun _ _ _ _ _ => (pe_cal C_merged hr (by rfl) (pa_cons (pv 15) pa_nil)))) (pe_op op_rep (pe_lst (pa_cons (pv 5) pa_nil)) pe_int) (nomark _))
  (pss_one (ps_ret pe_bl)) pss_nil)
 (pss_cons (ps_if (pt_cmpR (op_neD hr.units) (pe_lc (te := (tLc (iList K (tVar 15)) (gName 16) tYes (tCB (rLenK K) (tCons (tVar 16) tNil)) [16])) (tt := tYes) (own := [("family", 15)]) (g := (gName 15)) (by rfl) scLawRight.nd (pi_list (pv 13)) (blkOk_by (own := [("family", 15)]) (N := nLawRight) (sc := defScope sLawRight) (by decide +kernel)) (fun _ _ _ _ _ => (pg_name (i := 15) scLawRight.nd rfl (Or.inl rfl))) (fun _ _ _ _ _ => pts_nil) (fun _ _ _ _ _ => (pe_lc (te := (tCB (rLenK K) (tCons (tVar 16) tNil))) (tt := tYes) (own := [("queue", 16)]) (g := (gName 16)) (by rfl) scLawRight.nd (pi_list (pv 15)) (blkOk_by (own := [("queue", 16)]) (by kernel_rfl)) (fun _ _ _ _ _ => (pg_name (i := 16) scLawRight.nd rfl (Or.inl rfl))) (fun _ _ _ _ _ => pts_nil) (fun _ _ _ _ _ => (pe_callB (cl_len) (by rfl) Tx.len (by decide +kernel) (pa_cons (pv 16) pa_nil)))))) (pe_op op_rep (pe_lst (pa_cons (pv 3) pa_nil)) pe_int) (nomark _))
  (pss_one (ps_ret pe_bl)) pss_nil)
 (pss_one (ps_ret (pe_or (pe_cmpR op_eq (pe_op op_add (pv 12) pe_int) (pv 7) (by rfl)) (pe_one (pe_cmpR op_lt (pe_cal C_rank_of hr (by rfl) (pa_cons (pe_ix ix_list (pv 13) pe_int (fun _ _ => rfl)) pa_nil)) (pe_cal C_rank_of hr (by rfl) (pa_cons (pe_ix ix_list (pv 13) pe_int (fun _ _ => rfl)) pa_nil)) (nomark _)))))))))))))))))))))), ?_⟩
    repeat infer_instance
    refine ⟨H0, T, _, D, n, rfl, B, by omega, fun pp ps H R B => ?_⟩
    have r1 := R.l1
    have r2 := R.l2
    have r3 := R.sm
    have r4 := R.many
    repeat infer_instance
    refine u_scoop B (by omega) (by decide) (by decide) fun z H B hz => ?_
    repeat infer_instance
    obtain ⟨s, es, hs12, hs4⟩ : ∃ s : Nat, (1 : Int) + (z : Int) * (if decide ((((nis ps).map V.int).length : Int) < 4) = true then 1 else 0) = (s : Int) ∧ (s = 1 ∨ s = 2) ∧ (s = 2 → ps.length < 4) := by
      rw [nis_len]
      by_cases h : (ps.length : Int) < 4
      · rw [decide_eq_true h]
        exact ⟨1 + z, by simp, by omega, fun _ => by omega⟩
      · rw [decide_eq_false h]
        exact ⟨1, by simp, .inl rfl, fun e => by omega⟩
    rw [es]
    have hs0 : 0 < s := by omega
    repeat infer_instance
    refine s_itH (B.get pp) ?_
    have B : Own H0 H T (.ob pp (.lst ((nis ps).map V.int)) :: .pr D (CanO (n + 21)) :: L) := (B.upD D (show _ ≤ n + 21 by omega)).arr
    refine s_lcL (fun i acc M => acc = (nis ((ps.take i).map (· * s))).map V.int ∧ M = .ob pp (.lst ((nis ps).map V.int)) :: .pr D (CanO (n + 21)) :: L) ((nis ps).map V.int) B ⟨rfl, rfl⟩ ?_ (fun _ => rfl) ?_ ?_
    · rintro i acc M H ⟨_, rfl⟩ B
      exact SqL.of (B.get pp)
    · rintro E1 i x acc M H hx ⟨rfl, rfl⟩ B
      unfold nis at hx
      rw [List.getElem?_map, List.getElem?_map] at hx
      obtain ⟨xi, hx1, rfl⟩ := Option.map_eq_some_iff.mp hx
      obtain ⟨p, hp, rfl⟩ := Option.map_eq_some_iff.mp hx1
      have hi := (List.getElem?_eq_some_iff.mp hp).1
      repeat infer_instance
      refine iteT ?_
      repeat infer_instance
      refine s_el B (by rw [nis_len, List.length_map, List.length_take]; unfold sizeLine; omega) ⟨?_, rfl⟩
      rw [List.take_add_one, hp, List.map_append, ← nis_app]
      show _ = _ ++ [V.int ((p * s : Nat) : Int)]
      rw [Int.natCast_mul]
    rintro lp acc M H ⟨rfl, rfl⟩ B
    rw [nis_len, List.take_length] at B
    obtain ⟨ls, els⟩ : ∃ ls, ls = ps.map (· * s) := ⟨_, rfl⟩
    rw [← els] at B
    have lll : ls.length = ps.length := by rw [els, List.length_map]
    have hw : wgtF 1 ls ≤ 20000 := by
      rw [els]
      rcases hs12 with e | e
      · rw [e, show ps.map (· * 1) = ps by simp]; exact R.w1
      · rw [e]; exact R.w2 (hs4 e)
    repeat infer_instance
    refine s_newL B (show 0 ≤ sizeLine from by decide) fun rp H B => ?_
    have B : Own H0 H T (.ob rp (.lst (((bks s 0).flatten).map V.int)) :: .ob lp (.lst ((nis ls).map V.int)) :: .ob pp (.lst ((nis ps).map V.int)) :: .pr D (CanO (n + 21)) :: L) := B
    repeat infer_instance
    refine ⟨pp, nis ps, rfl, SqL.of (B.get pp), ?_⟩
    have esum : (nis ps).sum = ((ps.sum : Nat) : Int) := nis_sum ps
    rw [esum]
    repeat infer_instance
    refine s_itR (by omega) (by omega) ?_
    rw [Int.toNat_natCast]
    obtain ⟨N, eN⟩ : ∃ N, N = ps.sum := ⟨_, rfl⟩
    rw [← eN] at r3 ⊢
    refine s_forR (fun i σ M => (∃ y6 : Option V, σ = [some (.ref D), some (.ref pp), some (.int (s : Int)), some (.ref lp), none, some (.ref rp), y6, none, none, none, none, none, none, none, none, none, none]) ∧ M = .ob rp (.lst (((bks s i).flatten).map V.int)) :: .ob lp (.lst ((nis ls).map V.int)) :: .ob pp (.lst ((nis ps).map V.int)) :: .pr D (CanO (n + 21)) :: L) B ⟨⟨none, rfl⟩, rfl⟩ ?_ ?_
    · rintro i σ M H hi ⟨⟨y6, rfl⟩, rfl⟩ B
      have fl : ((bks s i).flatten).length ≤ 200 := by rw [flat_all (bks_all hs12), bks_len]; rcases hs12 with e | e <;> rw [e] <;> omega
      repeat infer_instance
      refine s_newL B (show 2 ≤ sizeLine from by decide) fun l2 H B => ?_
      repeat infer_instance
      refine s_slL B (B.get l2) fun l3 H B => ?_
      have eb : cutV [V.int (10 * (i : Int) + 5), V.int (10 * (i : Int))] none (some (s : Int)) = (blk s i).map V.int := by
        rw [cut_to]
        unfold blk
        rw [List.map_take]; rfl
      rw [eb] at B
      have bl : (blk s i).length ≤ 2 := by unfold blk; rw [List.length_take]; simp; omega
      repeat infer_instance
      refine s_extend B (B.get l3) (by rw [List.length_map, List.length_map]; unfold sizeLine; omega) fun H B => ?_
      rw [← List.map_append, ← bks_snoc] at B
      exact s_inn B ⟨⟨_, rfl⟩, rfl⟩
    rintro σ M H ⟨⟨y6, rfl⟩, rfl⟩ B
    have ecut : cut (bks s N).flatten = bks s N := (bks_ok hs12).cut_eq
    have nd : (bks s N).flatten.Nodup := bks_nd hs12
    have mlen : (bks s N).flatten.length = N * s := by rw [flat_all (bks_all hs12), bks_len]
    have mle : (bks s N).flatten.length ≤ 200 := by rw [mlen]; rcases hs12 with e | e <;> rw [e] <;> omega
    have lsum : ls.sum = N * s := by rw [els, sum_mulS, eN]
    have eA : allA (bks s N).flatten ls = asgL (List.replicate N s) (ps.map (· * s)) := by
      unfold allA
      rw [ecut, els]
      congr 1
      refine List.eq_replicate_iff.mpr ⟨by unfold szs; rw [List.length_map, bks_len], fun x hx => ?_⟩
      obtain ⟨b, hb, rfl⟩ := List.mem_map.mp hx
      exact bks_all hs12 b hb
    have hcm : cntF (bks s N).flatten ls = mulS 0 ps := by
      rw [cnt_allA _ _ (szs_posN _), eA]
      exact cntL_mul hs0 N ps eN.symm
    have fst := first_is (n := N) hs0 eN.symm
    have lst := last_is (n := N) hs0 eN.symm
    have sp1 : spread ls.length ((concF 0 ps).zip (cut (bks s N).flatten)) = sliR (bks s N).flatten ls := by
      rw [ecut, lll, els, ← sli_FR ps (bks s N) (bks_all hs12) (by rw [bks_len, eN]), ← conc_sli ps 0 (bks s N) (by rw [bks_len, eN])]
      unfold spread
      refine List.map_congr_left fun j _ => ?_
      rw [Nat.zero_add]
    have sp2 : spread ls.length ((concF 0 ps).reverse.zip (cut (bks s N).flatten)) = lasR (bks s N).flatten ls := by
      rw [ecut, lll, els, ← las_FR ps (bks s N) (bks_all hs12) (by rw [bks_len, eN]), ← conc_las ps 0 (bks s N) (by rw [bks_len, eN])]
      unfold spread
      refine List.map_congr_left fun j _ => ?_
      rw [Nat.zero_add]
    rw [← eA] at fst lst
    obtain ⟨ms, ems⟩ : ∃ ms, ms = (bks s N).flatten := ⟨_, rfl⟩
    rw [← ems] at B nd mlen mle hcm fst lst sp1 sp2
    clear eA ecut
    have hcA : (allA ms ls).length = mulS 0 ps := by rw [← hcm, cnt_allA _ _ (szs_posN _)]
    have hc0 : 0 < (allA ms ls).length := (List.getElem?_eq_some_iff.mp fst).1
    have hne : ls ≠ [] := fun e => by rw [e] at lll; simp at lll; omega
    obtain ⟨c, ec⟩ : ∃ c, c = mulS 0 ps := ⟨_, rfl⟩
    rw [← ec] at hcm hcA r4
    repeat infer_instance
    refine u_cntW B nd (by omega) hne (by omega) hw fun H B => ?_
    rw [hcm]
    repeat infer_instance
    refine ⟨_, _, _, pp, ps, rfl, B, fun H' B' => B'.get pp, R.sm, fun H B => ?_⟩
    rw [← ec]
    repeat infer_instance
    rw [decide_eq_true rfl]
    refine iteF ?_
    repeat infer_instance
    refine s_par3S ?_
    repeat infer_instance
    refine s_newL B (show 0 ≤ sizeLine from by decide) fun fp H B => ?_
    have B : Own H0 H T (.fm fp [] (vv ((sliR ms ls).take 0)) :: _) := B.toF0
    repeat infer_instance
    refine s_newL B (show 0 ≤ sizeLine from by decide) fun ap H B => ?_
    have B : Own H0 H T (.fm ap [] (vv ((lasR ms ls).take 0)) :: .fm fp [] (vv ((sliR ms ls).take 0)) :: .ob rp (.lst (ms.map V.int)) :: .ob lp (.lst ((nis ls).map V.int)) :: .pr D (CanO (n + 21)) :: L) := (show Own H0 H T (.fm ap [] [] :: .fm fp [] (vv ((sliR ms ls).take 0)) :: .ob rp (.lst (ms.map V.int)) :: .ob lp (.lst ((nis ls).map V.int)) :: .pr D (CanO (n + 21)) :: L) from B.toF0.arr)
    repeat infer_instance
    refine s_par3 ?_
    repeat infer_instance
    have tks : ∀ i l, ls[i]? = some l → (ls.take i).sum + l ≤ ms.length ∧ (ls.take (i + 1)).sum = (ls.take i).sum + l := fun i l h => by
      have e : ls.take (i + 1) = ls.take i ++ [l] := by rw [List.take_add_one, h]; rfl
      have e2 : (ls.take (i + 1)).sum + (ls.drop (i + 1)).sum = ls.sum := by rw [← List.sum_append, List.take_append_drop]
      have e3 : (ls.take (i + 1)).sum = (ls.take i).sum + l := by rw [e, List.sum_append]; simp
      omega
    refine s_itH (B.get lp) ?_
    refine s_forL (fun i σ M => ∃ (fq : List Addr) (y11 : Option V), σ = [some (.ref D), some (.ref pp), some (.int (s : Int)), some (.ref lp), none, some (.ref rp), y6, some (.int (c : Int)), some (.ref fp), some (.ref ap), some (.int (((ls.take i).sum : Nat) : Int)), y11, none, none, none, none, none] ∧ M = .fm fp fq (vv ((sliR ms ls).take i)) :: .fm ap [] (vv ((lasR ms ls).take 0)) :: .ob rp (.lst (ms.map V.int)) :: .ob lp (.lst ((nis ls).map V.int)) :: .pr D (CanO (n + 21)) :: L) ((nis ls).map V.int) B.arr ⟨[], none, rfl, rfl⟩ ?_ ?_ ?_
    · rintro i σ M H ⟨_, _, _, rfl⟩ B
      exact SqL.of (B.get lp)
    · rintro i x σ M H hx ⟨fq, y11, rfl, rfl⟩ B
      unfold nis at hx
      rw [List.getElem?_map, List.getElem?_map] at hx
      obtain ⟨xi, hx1, rfl⟩ := Option.map_eq_some_iff.mp hx
      obtain ⟨l, hp, rfl⟩ := Option.map_eq_some_iff.mp hx1
      have hi := (List.getElem?_eq_some_iff.mp hp).1
      obtain ⟨t1, t2⟩ := tks i l hp
      have hfq := B.lenF fp
      rw [List.length_take, sliR_len] at hfq
      repeat infer_instance
      rw [show (((ls.take i).sum : Nat) : Int) + (l : Int) = (((ls.take i).sum + l : Nat) : Int) from (Int.natCast_add _ _).symm]
      refine s_slL B (B.get rp) fun r1 H B => ?_
      rw [cut_mid (by omega), Nat.add_sub_cancel_left, ← List.map_drop, ← List.map_take] at B
      repeat infer_instance
      refine s_appendF B fp r1 (by unfold sizeLine; omega) fun H B => ?_
      rw [row_snoc (sliR_get ls ms i l hp)] at B
      repeat infer_instance
      exact s_inn B ⟨fq ++ [r1], _, by rw [t2]; rfl, rfl⟩
    rintro σ M H ⟨fq, y11, rfl, rfl⟩ B
    rw [nis_len, show (sliR ms ls).take ls.length = sliR ms ls from List.take_of_length_le (by rw [sliR_len]; exact Nat.le_refl _)] at B
    repeat infer_instance
    refine s_itH (B.get lp) ?_
    refine s_forL (fun i σ M => ∃ (aq : List Addr) (y11 : Option V), σ = [some (.ref D), some (.ref pp), some (.int (s : Int)), some (.ref lp), none, some (.ref rp), y6, some (.int (c : Int)), some (.ref fp), some (.ref ap), some (.int ((ms.length - (ls.take i).sum : Nat) : Int)), y11, none, none, none, none, none] ∧ M = .fm ap aq (vv ((lasR ms ls).take i)) :: .fm fp fq (vv (sliR ms ls)) :: .ob rp (.lst (ms.map V.int)) :: .ob lp (.lst ((nis ls).map V.int)) :: .pr D (CanO (n + 21)) :: L) ((nis ls).map V.int) B.arr ⟨[], y11, by rw [show (ms.map V.int).length = ms.length - (ls.take 0).sum by rw [List.length_map]; rfl]; rfl, rfl⟩ ?_ ?_ ?_
    · rintro i σ M H ⟨_, _, _, rfl⟩ B
      exact SqL.of (B.get lp)
    · rintro i x σ M H hx ⟨aq, y11, rfl, rfl⟩ B
      unfold nis at hx
      rw [List.getElem?_map, List.getElem?_map] at hx
      obtain ⟨xi, hx1, rfl⟩ := Option.map_eq_some_iff.mp hx
      obtain ⟨l, hp, rfl⟩ := Option.map_eq_some_iff.mp hx1
      have hi := (List.getElem?_eq_some_iff.mp hp).1
      obtain ⟨t1, t2⟩ := tks i l hp
      have hfq := B.lenF ap
      rw [List.length_take, lasR_len] at hfq
      have eh : ((ms.length - (ls.take i).sum : Nat) : Int) - (l : Int) = ((ms.length - (ls.take i).sum - l : Nat) : Int) := by omega
      repeat infer_instance
      rw [eh]
      refine s_slL B (B.get rp) fun r1 H B => ?_
      rw [cut_mid (by omega), show ms.length - (ls.take i).sum - (ms.length - (ls.take i).sum - l) = l by omega, ← List.map_drop, ← List.map_take] at B
      repeat infer_instance
      refine s_appendF B ap r1 (by unfold sizeLine; omega) fun H B => ?_
      rw [row_snoc (lasR_get ls ms i l (by omega) hp)] at B
      repeat infer_instance
      exact s_inn B ⟨aq ++ [r1], _, by rw [t2, show ms.length - ((ls.take i).sum + l) = ms.length - (ls.take i).sum - l by omega, ← eh]; rfl, rfl⟩
    rintro σ M H ⟨aq, y11, rfl, rfl⟩ B
    rw [nis_len, show (lasR ms ls).take ls.length = lasR ms ls from List.take_of_length_le (by rw [lasR_len]; exact Nat.le_refl _)] at B
    repeat infer_instance
    refine u_nthW (n := 0) B nd (by omega) hne (by omega) hw fst fun np nq H B => ?_
    rw [sp1] at B
    repeat infer_instance
    refine s_neRR B ?_
    rw [decide_eq_true rfl]
    have B := B.tail
    repeat infer_instance
    refine iteF ?_
    repeat infer_instance
    rw [show (c : Int) - 1 = (((allA ms ls).length - 1 : Nat) : Int) by omega]
    refine u_nthW B nd (by omega) hne (by omega) hw lst fun np nq H B => ?_
    rw [sp2] at B
    repeat infer_instance
    refine s_neRR B ?_
    rw [decide_eq_true rfl]
    have B : Own H0 H T (.pr D (CanO (n + 21)) :: .ob rp (.lst (ms.map V.int)) :: .ob lp (.lst ((nis ls).map V.int)) :: L) := B.arr
    repeat infer_instance
    refine iteF ?_
    repeat infer_instance
    refine u_scoop B (by omega) (by omega) (by omega) fun v H B hv => ?_
    have hv : v < (allA ms ls).length := by omega
    repeat infer_instance
    obtain ⟨v2, ev2, hv2, hvs⟩ : ∃ v2 : Nat, (if (c : Int) - 1 < (v : Int) + 1 then (c : Int) - 1 else (v : Int) + 1) = (v2 : Int) ∧ v2 < (allA ms ls).length ∧ (v + 1 < (allA ms ls).length → v2 = v + 1) := by
      by_cases h : (c : Int) - 1 < (v : Int) + 1
      · exact ⟨c - 1, by rw [if_pos h]; omega, by omega, fun h2 => by omega⟩
      · exact ⟨v + 1, by rw [if_neg h]; omega, by omega, fun _ => rfl⟩
    rw [ev2]
    refine s_newL B (show 2 ≤ sizeLine from by decide) fun ip H B => ?_
    rw [show [V.int (v : Int), V.int (v2 : Int)] = (nis [v, v2]).map V.int from rfl] at B
    have B : Own H0 H T (.ob ip (.lst ((nis [v, v2]).map V.int)) :: .ob rp (.lst (ms.map V.int)) :: .ob lp (.lst ((nis ls).map V.int)) :: .pr D (CanO (n + 22)) :: L) := (B.upD D (show _ ≤ n + 22 by omega)).arr
    repeat infer_instance
    have fo : ∀ u, u < (allA ms ls).length → ∃ as, (allA ms ls)[u]? = some as ∧ FamOf ms ls as (spread ls.length (as.zip (cut ms))) := fun u hu => by
      obtain ⟨as, ha⟩ : ∃ as, (allA ms ls)[u]? = some as := ⟨_, List.getElem?_eq_getElem hu⟩
      exact ⟨as, ha, fam_of nd (by omega) (by omega) (by omega) (List.mem_of_getElem? ha)⟩
    obtain ⟨a1, ha1, F1⟩ := fo v hv
    obtain ⟨a2, ha2, F2⟩ := fo v2 hv2
    obtain ⟨f1, ef1⟩ : ∃ f1, f1 = spread ls.length (a1.zip (cut ms)) := ⟨_, rfl⟩
    obtain ⟨f2, ef2⟩ : ∃ f2, f2 = spread ls.length (a2.zip (cut ms)) := ⟨_, rfl⟩
    rw [← ef1] at F1
    rw [← ef2] at F2
    refine s_itH (B.get ip) ?_
    refine s_lcL (fun i acc M => ∃ zs : List Fz, vals zs = [f1, f2].take i ∧ acc = refs zs ∧ M = .ob ip (.lst ((nis [v, v2]).map V.int)) :: .ob rp (.lst (ms.map V.int)) :: .ob lp (.lst ((nis ls).map V.int)) :: .pr D (CanO (n + 22)) :: (fams zs ++ L)) ((nis [v, v2]).map V.int) B ⟨[], rfl, rfl, rfl⟩ ?_ (fun _ => rfl) ?_ ?_
    · rintro i acc M H ⟨zs, _, _, rfl⟩ B
      exact SqL.of (B.get ip)
    · rintro E1 i x acc M H hx ⟨zs, hzs, rfl, rfl⟩ B
      have hzl := congrArg List.length hzs
      unfold vals at hzl
      rw [List.length_map, List.length_take] at hzl
      simp only [List.length_cons, List.length_nil] at hzl
      obtain ⟨u, as, f, ex, hu, ha, ef, hf⟩ : ∃ (u : Nat) (as : List Nat) (f : List (List Int)), x = .int (u : Int) ∧ u < (allA ms ls).length ∧ (allA ms ls)[u]? = some as ∧ f = spread ls.length (as.zip (cut ms)) ∧ [f1, f2][i]? = some f := by
        rcases i with _ | _ | i
        · cases hx
          exact ⟨v, a1, f1, rfl, hv, ha1, ef1, rfl⟩
        · cases hx
          exact ⟨v2, a2, f2, rfl, hv2, ha2, ef2, rfl⟩
        · simp [nis] at hx
      subst ex
      repeat infer_instance
      refine iteT ?_
      repeat infer_instance
      refine u_nthW B nd (by omega) hne (by omega) hw ha fun fp2 fq2 H B => ?_
      rw [← ef] at B
      have B : Own H0 H T (.ob E1 (.lst (refs zs)) :: .ob ip (.lst ((nis [v, v2]).map V.int)) :: .ob rp (.lst (ms.map V.int)) :: .ob lp (.lst ((nis ls).map V.int)) :: .pr D (CanO (n + 22)) :: (fams (zs ++ [(fp2, fq2, f)]) ++ L)) := B.perm (by
        rw [fams_app, List.append_assoc]
        exact (List.perm_middle (l₁ := _ :: _ :: _ :: _ :: _ :: fams zs)).symm)
      refine s_el B (by unfold refs sizeLine; rw [List.length_map]; omega) ⟨zs ++ [(fp2, fq2, f)], ?_, by rw [refs_app]; rfl, rfl⟩
      rw [vals_app, hzs, List.take_add_one, hf]; rfl
    rintro so acc M H ⟨zs, hzs, rfl, rfl⟩ B
    have hzs : vals zs = [f1, f2] := hzs
    have zl : zs.length = 2 := by
      have h := congrArg List.length hzs
      unfold vals at h
      rw [List.length_map] at h
      exact h
    have zF : ∀ z ∈ zs, ∃ as, FamOf ms ls as z.2.2 := fun z hz => by
      have : z.2.2 ∈ vals zs := List.mem_map.mpr ⟨z, hz, rfl⟩
      rw [hzs] at this
      rcases List.mem_cons.mp this with h | h
      · exact ⟨a1, by rw [h]; exact F1⟩
      · exact ⟨a2, by rw [List.mem_singleton.mp h]; exact F2⟩
    have rl : (refs zs).length = 2 := by unfold refs; rw [List.length_map, zl]
    obtain ⟨M0, eM0⟩ : ∃ M0, M0 = Cell.ob so (.lst (refs zs)) :: .ob rp (.lst (ms.map V.int)) :: .ob lp (.lst ((nis ls).map V.int)) :: .pr D (CanO (n + 22)) :: (fams zs ++ L) := ⟨_, rfl⟩
    have zmem : ∀ z ∈ zs, Cell.fm z.1 z.2.1 (vv z.2.2) ∈ M0 := fun z hz => by
      rw [eM0]
      have := fams_mem hz
      simp only [List.mem_cons, List.mem_append]
      exact .inr (.inr (.inr (.inr (.inl this))))
    have zAt : ∀ H' A, Own H0 H' T (A ++ M0) → ∀ z ∈ zs, FamAt H' z.1 z.2.1 z.2.2 := fun H' A B' z hz => Own.fmem B' (List.mem_append_right _ (zmem z hz))
    have sAt : ∀ H' A, Own H0 H' T (A ++ M0) → H' so = some (.lst (refs zs)) := fun H' A B' => (B'.ok (.ob so (.lst (refs zs))) (List.mem_append_right _ (by rw [eM0]; exact List.mem_cons_self ..))).1
    have rAt : ∀ H' A, Own H0 H' T (A ++ M0) → H' rp = some (.lst (ms.map V.int)) := fun H' A B' => (B'.ok (.ob rp (.lst (ms.map V.int))) (List.mem_append_right _ (by rw [eM0]; exact List.mem_cons_of_mem _ (List.mem_cons_self ..)))).1
    have lAt : ∀ H' A, Own H0 H' T (A ++ M0) → H' lp = some (.lst ((nis ls).map V.int)) := fun H' A B' => (B'.ok (.ob lp (.lst ((nis ls).map V.int))) (List.mem_append_right _ (by rw [eM0]; exact List.mem_cons_of_mem _ (List.mem_cons_of_mem _ (List.mem_cons_self ..))))).1
    have B : Own H0 H T M0 := by rw [eM0]; exact B.arr
    repeat infer_instance
    refine s_itH (sAt H [] B) ?_
    refine s_lcL (fun i acc M => ∃ qs : List Addr, qs.length = i ∧ acc = qs.map V.ref ∧ M = .rs qs (vv (List.replicate i ms)) :: M0) (refs zs) B.rs0 ⟨[], rfl, rfl, rfl⟩ ?_ (fun _ => rfl) ?_ ?_
    · rintro i acc M H ⟨qs, _, _, rfl⟩ B
      exact SqL.of (sAt H [_] B)
    · rintro E1 i x acc M H hx ⟨qs, hqs, rfl, rfl⟩ B
      unfold refs at hx
      rw [List.getElem?_map] at hx
      obtain ⟨z, hz, rfl⟩ := Option.map_eq_some_iff.mp hx
      have hi := (List.getElem?_eq_some_iff.mp hz).1
      obtain ⟨as, Fz⟩ := zF z (List.mem_of_getElem? hz)
      repeat infer_instance
      refine iteT ?_
      repeat infer_instance
      refine u_mergedA B (fun H' B' => zAt H' [_, _] B' z (List.mem_of_getElem? hz)) Fz.fit fun r H B => ?_
      rw [Fz.mg] at B
      have B2 : Own H0 H T (.rs (qs ++ [r]) (vv (List.replicate i ms) ++ [ms.map V.int]) :: .ob E1 (.lst (qs.map V.ref)) :: M0) := Own.pushR B.arr
      rw [show vv (List.replicate i ms) ++ [ms.map V.int] = vv (List.replicate (i + 1) ms) by rw [List.replicate_succ', vv_app]; rfl] at B2
      refine s_el B2 (by rw [List.length_map, hqs]; unfold sizeLine; omega) ⟨qs ++ [r], by rw [List.length_append, hqs]; rfl, by rw [List.map_append]; rfl, rfl⟩
    rintro mp acc M H ⟨mq, hmq, rfl, rfl⟩ B
    have B := B.closeR
    rw [rl] at B
    repeat infer_instance
    refine s_newL B (show 1 ≤ sizeLine from by decide) fun w1 H B => ?_
    repeat infer_instance
    refine s_rpt B (B.get w1) (by omega) (by omega) (show 1 * 2 ≤ sizeLine from by decide) fun w2 H B => ?_
    refine s_neRZ (zs := [(rp, ms), (rp, ms)]) (B.getF mp) (B.rowsF mp) (B.get w2) (fun z hz => ?_) ?_
    · have : z = (rp, ms) := by simpa using hz
      rw [this]; exact rAt H [_, _, _] B
    rw [decide_eq_true (show List.replicate 2 ms = [(rp, ms), (rp, ms)].map (·.2) from rfl)]
    have B : Own H0 H T M0 := B.tail.tail.tail
    repeat infer_instance
    refine iteF ?_
    repeat infer_instance
    refine s_itH (sAt H [] B) ?_
    refine s_lcL (fun i acc M => ∃ qs : List Addr, qs.length = i ∧ acc = qs.map V.ref ∧ M = .rs qs (vv (List.replicate i (nis ls))) :: M0) (refs zs) B.rs0 ⟨[], rfl, rfl, rfl⟩ ?_ (fun _ => rfl) ?_ ?_
    · rintro i acc M H ⟨qs, _, _, rfl⟩ B
      exact SqL.of (sAt H [_] B)
    · rintro E1 i x acc M H hx ⟨qs, hqs, rfl, rfl⟩ B
      unfold refs at hx
      rw [List.getElem?_map] at hx
      obtain ⟨z, hz, rfl⟩ := Option.map_eq_some_iff.mp hx
      have hi := (List.getElem?_eq_some_iff.mp hz).1
      obtain ⟨as, Fz⟩ := zF z (List.mem_of_getElem? hz)
      have fz : ∀ H' A, Own H0 H' T (A ++ M0) → FamAt H' z.1 z.2.1 z.2.2 := fun H' A B' => zAt H' A B' z (List.mem_of_getElem? hz)
      have zlen := (fz H [_, _] B).len
      have z1000 : z.2.2.length ≤ 150 := by rw [← List.length_map (f := List.length), Fz.ln]; omega
      repeat infer_instance
      refine iteT ?_
      repeat infer_instance
      refine s_itH (fz H [_, _] B).top ?_
      refine s_lcL (fun j acc M => acc = (nis ((z.2.2.take j).map List.length)).map V.int ∧ M = .ob E1 (.lst (qs.map V.ref)) :: .rs qs (vv (List.replicate i (nis ls))) :: M0) (z.2.1.map V.ref) B ⟨rfl, rfl⟩ ?_ (fun x => rfl) ?_ ?_
      · rintro j acc M H ⟨_, rfl⟩ B
        exact SqL.of (fz H [_, _] B).top
      · rintro E2 j x acc M H hx ⟨rfl, rfl⟩ B
        rw [List.getElem?_map] at hx
        obtain ⟨qq, hq, rfl⟩ := Option.map_eq_some_iff.mp hx
        obtain ⟨b, hb1, hrow⟩ := (fz H [_, _, _] B).row hq
        have hi := (List.getElem?_eq_some_iff.mp hb1).1
        repeat infer_instance
        refine iteT ?_
        repeat infer_instance
        refine s_lenH hrow ?_
        rw [List.length_map]
        refine s_el B (by rw [nis_len, List.length_map, List.length_take]; unfold sizeLine; omega) ⟨?_, rfl⟩
        rw [List.take_add_one, hb1, List.map_append, ← nis_app]
        rfl
      rintro r acc M H ⟨rfl, rfl⟩ B
      rw [List.length_map, zlen, List.take_length, Fz.ln] at B
      have B2 : Own H0 H T (.rs (qs ++ [r]) (vv (List.replicate i (nis ls)) ++ [(nis ls).map V.int]) :: .ob E1 (.lst (qs.map V.ref)) :: M0) := Own.pushR B.arr
      rw [show vv (List.replicate i (nis ls)) ++ [(nis ls).map V.int] = vv (List.replicate (i + 1) (nis ls)) by rw [List.replicate_succ', vv_app]; rfl] at B2
      refine s_el B2 (by rw [List.length_map, hqs]; unfold sizeLine; omega) ⟨qs ++ [r], by rw [List.length_append, hqs]; rfl, by rw [List.map_append]; rfl, rfl⟩
    rintro mp acc M H ⟨mq, hmq, rfl, rfl⟩ B
    have B := B.closeR
    rw [rl] at B
    repeat infer_instance
    refine s_newL B (show 1 ≤ sizeLine from by decide) fun w1 H B => ?_
    repeat infer_instance
    refine s_rpt B (B.get w1) (by omega) (by omega) (show 1 * 2 ≤ sizeLine from by decide) fun w2 H B => ?_
    refine s_neRZ (zs := [(lp, nis ls), (lp, nis ls)]) (B.getF mp) (B.rowsF mp) (B.get w2) (fun z hz => ?_) ?_
    · have : z = (lp, nis ls) := by simpa using hz
      rw [this]; exact lAt H [_, _, _] B
    rw [decide_eq_true (show List.replicate 2 (nis ls) = [(lp, nis ls), (lp, nis ls)].map (·.2) from rfl)]
    have B : Own H0 H T M0 := B.tail.tail.tail
    have fin : ∀ H, Own H0 H T M0 → Q (.bl true) H := fun H B => by
      rw [eM0] at B
      have B : Own H0 H T (.pr D (CanO (n + 30)) :: (fams zs ++ L)) := (B.upD D (show _ ≤ n + 30 by omega)).arr
      exact q H (B.sub ((List.sublist_append_right ..).cons_cons _))
    repeat infer_instance
    refine iteF ?_
    repeat infer_instance
    refine iteD (fun _ => ?_) (fun hlt => ?_)
    · exact fin H B
    have hlt : v + 1 < (allA ms ls).length := by omega
    have e2 := hvs hlt
    obtain ⟨z1, hz1⟩ : ∃ z1, zs[0]? = some z1 := ⟨_, List.getElem?_eq_getElem (by omega)⟩
    obtain ⟨z2, hz2⟩ : ∃ z2, zs[1]? = some z2 := ⟨_, List.getElem?_eq_getElem (by omega)⟩
    have v1 : z1.2.2 = f1 := by
      have h := congrArg (fun l => l[0]?) hzs
      unfold vals at h
      simp only [List.getElem?_map, hz1, Option.map_some] at h
      exact Option.some.inj h
    have v2' : z2.2.2 = f2 := by
      have h := congrArg (fun l => l[1]?) hzs
      unfold vals at h
      simp only [List.getElem?_map, hz2, Option.map_some] at h
      exact Option.some.inj h
    have m1 := zmem z1 (List.mem_of_getElem? hz1)
    have m2 := zmem z2 (List.mem_of_getElem? hz2)
    rw [v1] at m1
    rw [v2'] at m2
    obtain ⟨N1, P1⟩ := pull_mem m1
    obtain ⟨N2, P2⟩ := pull_mem m2
    have hin : ∀ (u : Nat) (a : List Nat), (allA ms ls)[u]? = some a → a.length = (cut ms).length ∧ ∀ x ∈ a, x < ls.length := fun u a h => by
      obtain ⟨q1, q2, _⟩ := (mem_asgL _ _ _).mp (List.mem_of_getElem? h)
      exact ⟨by rw [q1]; exact List.length_map .., q2⟩
    have rlt : rnk f1 < rnk f2 := by
      rw [F1.rk, F2.rk]
      obtain ⟨q1, q2⟩ := hin v a1 ha1
      obtain ⟨q3, q4⟩ := hin v2 a2 ha2
      refine wr_lex (by omega) (by omega) q2 q4 ?_
      have := asgL_at ha1 ha2
      rw [this]
      exact decide_eq_true (by omega)
    repeat infer_instance
    refine s_ixS (SqL.of (sAt H [] B)) (i := 0) (v := .ref z1.1) (by exact atI_nat (j := 0) (by unfold refs; rw [List.getElem?_map, hz1]; rfl)) ?_
    repeat infer_instance
    refine u_rankOf B F1.fit fun H B => ?_
    repeat infer_instance
    refine s_ixS (SqL.of (sAt H [] B)) (i := 1) (v := .ref z2.1) (by exact atI_nat (j := 1) (by unfold refs; rw [List.getElem?_map, hz2]; rfl)) ?_
    repeat infer_instance
    refine u_rankOf B F2.fit fun H B => ?_
    repeat infer_instance
    rw [decide_eq_true (show ((rnk f1 : Nat) : Int) < ((rnk f2 : Nat) : Int) by omega)]
    exact fin H B
end
end My
namespace My
open PySem PySem.Spec PyProof.Rows L2 LamX
local macro_rules | `(tactic| infer_instance) => `(tactic| first
  | with_reducible refine s_var (by with_unfolding_all exact rfl) ?_
  | with_reducible apply s_C
  | with_reducible apply s_op
  | with_reducible apply s_i0
  | with_reducible apply s_seq
  | with_reducible apply s_asg
  | with_reducible apply s_gn
  | with_reducible apply s_nil
  | with_reducible apply s_cons
  | with_reducible apply s_cb
  | with_reducible apply s_call
  | with_reducible apply s_un
  | with_reducible apply s_u
  | with_reducible apply s_test
  | with_reducible apply s_blV
  | with_reducible apply s_eqI
  | with_reducible apply s_neI
  | with_reducible apply s_ifs
  | with_reducible apply s_drop
  | with_reducible apply s_ret
  | with_reducible apply s_lst
  | with_reducible apply s_tup
  | with_reducible apply s_and
  | with_reducible apply s_or
  | with_reducible apply s_not
  | with_reducible apply s_tB
  | with_reducible apply s_bm
  | with_reducible apply s_bm0
  | with_reducible apply s_for
  | with_reducible apply s_iList
  | with_reducible apply s_iTup
  | with_reducible apply s_mndS
  | with_reducible apply s_srtS
  | with_reducible apply s_lc2S
  | with_reducible apply s_remS
  | with_reducible apply s_iRng
  | with_reducible apply s_iEnum
  | with_reducible apply s_iRng3
  | with_reducible apply s_iZip
  | with_reducible apply s_iZip3
  | with_reducible apply s_iRev
  | with_reducible apply s_get2S
  | with_reducible apply s_iEZ
  | with_reducible apply s_sl
  | with_reducible apply s_noPart
  | with_reducible apply s_part
  | with_reducible apply s_partI
  | with_reducible apply s_neS
  | with_reducible apply s_eqS
  | with_reducible apply s_lc
  | with_reducible apply s_dc
  | with_reducible apply s_dg
  | with_reducible apply s_di
  | with_reducible apply s_dni
  | with_reducible apply s_yes
  | with_reducible apply s_chain
  | with_reducible refine s_aug (by with_unfolding_all exact rfl) ?_
  | with_reducible apply s_ip
  | with_reducible apply s_revL
  | with_reducible apply s_gsub
  | with_reducible apply s_gslc
  | with_reducible apply s_parS
  | with_reducible apply s_par
  | with_reducible apply s_gc
  | with_reducible apply s_gnil
  | with_reducible apply s_brk
  | with_reducible apply s_cnt
  | with_reducible apply s_next
  | with_reducible apply s_andV
  | with_reducible apply s_orV
  | with_reducible apply s_notV
  | with_reducible apply s_isB
  | with_reducible apply s_notB
  | with_reducible apply s_max2
  | with_reducible apply s_min2
  | with_reducible apply s_abs
  | with_reducible apply s_intB
  | (with_reducible refine s_len (by assumption) ?_)
  | (with_reducible refine s_lenF (by assumption) ?_)
  | (with_reducible refine s_ty (by assumption) ?_)
  | (with_reducible refine s_tyF (by assumption) ?_)
  | (with_reducible refine s_i (by first | decide | exact cpow_ok (by decide) (by decide) (by decide) | exact cdivw (by decide) (by decide) | exact cmul_l (by decide) (by decide) | exact cmul_r (by decide) (by decide) | omega | exact cmul_l (by omega) (by omega) | exact cmul_r (by omega) (by omega)) ?_))

abbrev nLaw : List Str := ["script", "k"]
theorem scLaw : FnScope nLaw ["script"] (defScope sLaw) := ⟨rfl, rfl, rfl, by decide +kernel, rfl, by decide +kernel, by decide +kernel⟩

section
variable {P : Program} {w : World} {K : PySem.W.Frag} {mg : Str → Option Value} {base : Heap}
def spLaw (K : PySem.W.Frag) (T : List (Addr × Str)) : Sp := fun vs H Q _ => ∃ (a : Addr) (ns : List Int), vs = [.ref a] ∧ SqL K H a (ns.map V.int) ∧ ns.length ≤ 63 ∧ Tabs T H ∧ ∀ H', Q (.bl true) H'
set_option maxHeartbeats 0 in
theorem ok_Law {T : List (Addr × Str)} {f : Addr} {fd : FuncData} {k : Nat} (F : Fun K "law" "law" sLaw f fd) (Tx : Txt mg) (C__law_can : Cal P w K mg base k "_law_can" ["script", "k"] (spLawCan K)) (C__law_right : Cal P w K mg base k "_law_right" ["can"] (spRightK T)) : FnG P w K mg base (k + 1) f fd ["script"] (spLaw K T) := by
  refine okG F scLaw (fun vs H Q E h => ?_) (fun cdv A outer s H0 vs Q E gu hr h => ?_)
  · obtain ⟨a, ns, rfl, _⟩ := h
    rfl
  · obtain ⟨a, ns, rfl, hS, hl, tb, q⟩ := h
    refine ⟨_, (pss_cons (ps_for PassesOwn.never rfl (pi_range1 (by rfl) Tx.range (pa_cons (pe_callB (cl_max2 (by rfl)) (by rfl) Tx.max (by decide +kernel) (pa_cons pe_int (pa_cons (pe_callB (cl_min2 (by rfl)) (by rfl) Tx.min (by decide +kernel) (pa_cons pe_int (pa_cons (pe_callB (cl_len) (by rfl) Tx.len (by decide +kernel) (pa_cons (pv 0) pa_nil)) pa_nil))) pa_nil))) pa_nil)) (pg_name (i := 1) scLaw.nd rfl (Or.inl rfl))
  (pss_one (ps_if (pt_not (pt_val (pe_cal C__law_right hr (by rfl) (pa_cons (pe_cal C__law_can hr (by rfl) (pa_cons (pv 0) (pa_cons (pv 1) pa_nil))) pa_nil))))
  (pss_one (ps_ret pe_bl)) pss_nil)))
 (pss_one (ps_ret pe_bl))), ?_⟩
    have B : Own H0 H0 T [] := Own.start tb
    repeat infer_instance
    refine s_lenS hS ?_
    repeat infer_instance
    refine s_itR (by split <;> (try split) <;> omega) (by split <;> (try split) <;> omega) ?_
    refine s_forR (fun i σ M => (∃ y1 : Option V, σ = [some (.ref a), y1]) ∧ M = []) B ⟨⟨none, rfl⟩, rfl⟩ ?_ ?_
    · rintro k σ M H hk ⟨⟨y1, rfl⟩, rfl⟩ B
      have hS2 := xsq B.ex hS
      have hk6 : k ≤ 8 := by
        have z : (if (if ((ns.map V.int).length : Int) < 4 then ((ns.map V.int).length : Int) else 4) > 1 then (if ((ns.map V.int).length : Int) < 4 then ((ns.map V.int).length : Int) else 4) else 1 : Int) ≤ 8 := by
          split <;> (try split) <;> omega
        omega
      repeat infer_instance
      refine ⟨_, _, _, a, ns, k, rfl, B, hS2, by omega, fun D H B => ?_⟩
      repeat infer_instance
      refine ⟨_, _, D, _, rfl, B, by decide, fun H B => ?_⟩
      repeat infer_instance
      refine iteF ?_
      repeat infer_instance
      refine s_inn (B.sub (List.nil_sublist _)) ⟨⟨_, rfl⟩, rfl⟩
    · rintro σ M H ⟨⟨y1, rfl⟩, rfl⟩ B
      repeat infer_instance
      exact q H
end
end My
namespace My
open PySem PySem.Spec PyProof.Rows L2 LamX
/-! what the top has written, read by name -/
set_option maxHeartbeats 0 in
theorem all_in {l : PySem.W.OpenLaw} {w : World} {K : PySem.W.Frag} {h : Heap} {mg : Str → Option Value} {fa f1 f2 f3 f4 f5 f6 f7 f8 f9 f10 f11 f12 f13 f14 f15 f16 f17 f18 f19 f20 f21 f22 f23 f24 f25 f26 f27 f28 f29 : Addr}
    (X : K.In h) (G : h.Ns mainGlobals mg) (hfa : mg "law" = some (.ref fa))
    {od1 an1 od2 an2 od3 an3 od4 an4 od5 an5 od6 an6 od7 an7 od8 an8 od9 an9 od10 an10 od11 an11 od12 an12 od13 an13 od14 an14 od15 an15 od16 an16 od17 an17 od18 an18 od19 an19 od20 an20 od21 an21 od22 an22 od23 an23 od24 an24 od25 an25 od26 an26 od27 an27 od28 an28 od29 an29 : Option Addr}
    {sl1 sl2 sl3 sl4 sl5 sl6 sl7 sl8 sl9 sl10 sl11 sl12 sl13 sl14 sl15 sl16 sl17 sl18 sl19 sl20 sl21 sl22 sl23 sl24 sl25 sl26 sl27 sl28 sl29 : Array (Option Value)}
    {oc1 kV1 dc1 pm1 ct1 cd1 oc2 kV2 dc2 pm2 ct2 cd2 oc3 kV3 dc3 pm3 ct3 cd3 oc4 kV4 dc4 pm4 ct4 cd4 oc5 kV5 dc5 pm5 ct5 cd5 oc6 kV6 dc6 pm6 ct6 cd6 oc7 kV7 dc7 pm7 ct7 cd7 oc8 kV8 dc8 pm8 ct8 cd8 oc9 kV9 dc9 pm9 ct9 oc10 kV10 dc10 pm10 ct10 cd10 oc11 kV11 dc11 pm11 ct11 cd11 oc12 kV12 dc12 pm12 ct12 cd12 oc13 kV13 dc13 pm13 ct13 cd13 oc14 kV14 dc14 pm14 ct14 cd14 oc15 kV15 dc15 pm15 ct15 cd15 oc16 kV16 dc16 pm16 ct16 cd16 oc17 kV17 dc17 pm17 ct17 cd17 oc18 kV18 dc18 pm18 ct18 cd18 oc19 kV19 dc19 pm19 ct19 cd19 oc20 kV20 dc20 pm20 ct20 cd20 oc21 kV21 dc21 pm21 ct21 cd21 oc22 kV22 dc22 pm22 ct22 cd22 oc23 kV23 dc23 pm23 ct23 cd23 oc24 kV24 dc24 pm24 ct24 cd24 oc25 kV25 dc25 pm25 ct25 cd25 oc26 kV26 dc26 pm26 ct26 cd26 oc27 kV27 dc27 pm27 ct27 cd27 oc28 kV28 dc28 pm28 ct28 cd28 oc29 kV29 dc29 pm29 ct29 cd29 : Value}
    {cc9 tt9 : Addr} {ec9 : Value} {dd9 : Option Addr} {vs9 : Array Value} {sc9 : Array (Option Value)}
    (tab9 : TabOf K mg h "placed_blocks")
    (a1 : PySem.W.nsIn K mainGlobals "is_integer" = some (some (.ref f1)))
    (l1 : K.lookup f1 = some ⟨oc1, od1, .func (PySem.W.fnOf "is_integer" "is_integer" (defArgs sInt) (defBody sInt) (defScope sInt) .none kV1 dc1 pm1 an1 cd1 ct1), sl1⟩)
    (c1 : PySem.W.codeIn K cd1 "is_integer" = true) (k1 : PySem.W.keepIn K (.ref f1) = true)
    (a2 : PySem.W.nsIn K mainGlobals "is_index" = some (some (.ref f2)))
    (l2 : K.lookup f2 = some ⟨oc2, od2, .func (PySem.W.fnOf "is_index" "is_index" (defArgs sIsIndex) (defBody sIsIndex) (defScope sIsIndex) .none kV2 dc2 pm2 an2 cd2 ct2), sl2⟩)
    (c2 : PySem.W.codeIn K cd2 "is_index" = true) (k2 : PySem.W.keepIn K (.ref f2) = true)
    (a3 : PySem.W.nsIn K mainGlobals "require_index" = some (some (.ref f3)))
    (l3 : K.lookup f3 = some ⟨oc3, od3, .func (PySem.W.fnOf "require_index" "require_index" (defArgs sRequireIndex) (defBody sRequireIndex) (defScope sRequireIndex) .none kV3 dc3 pm3 an3 cd3 ct3), sl3⟩)
    (c3 : PySem.W.codeIn K cd3 "require_index" = true) (k3 : PySem.W.keepIn K (.ref f3) = true)
    (a4 : PySem.W.nsIn K mainGlobals "is_numbers" = some (some (.ref f4)))
    (l4 : K.lookup f4 = some ⟨oc4, od4, .func (PySem.W.fnOf "is_numbers" "is_numbers" (defArgs sNums) (defBody sNums) (defScope sNums) .none kV4 dc4 pm4 an4 cd4 ct4), sl4⟩)
    (c4 : PySem.W.codeIn K cd4 "is_numbers" = true) (k4 : PySem.W.keepIn K (.ref f4) = true)
    (a5 : PySem.W.nsIn K mainGlobals "is_family" = some (some (.ref f5)))
    (l5 : K.lookup f5 = some ⟨oc5, od5, .func (PySem.W.fnOf "is_family" "is_family" (defArgs sFam) (defBody sFam) (defScope sFam) .none kV5 dc5 pm5 an5 cd5 ct5), sl5⟩)
    (c5 : PySem.W.codeIn K cd5 "is_family" = true) (k5 : PySem.W.keepIn K (.ref f5) = true)
    (a6 : PySem.W.nsIn K mainGlobals "require_numbers" = some (some (.ref f6)))
    (l6 : K.lookup f6 = some ⟨oc6, od6, .func (PySem.W.fnOf "require_numbers" "require_numbers" (defArgs sReq) (defBody sReq) (defScope sReq) .none kV6 dc6 pm6 an6 cd6 ct6), sl6⟩)
    (c6 : PySem.W.codeIn K cd6 "require_numbers" = true) (k6 : PySem.W.keepIn K (.ref f6) = true)
    (a7 : PySem.W.nsIn K mainGlobals "require_family" = some (some (.ref f7)))
    (l7 : K.lookup f7 = some ⟨oc7, od7, .func (PySem.W.fnOf "require_family" "require_family" (defArgs sReqF) (defBody sReqF) (defScope sReqF) .none kV7 dc7 pm7 an7 cd7 ct7), sl7⟩)
    (c7 : PySem.W.codeIn K cd7 "require_family" = true) (k7 : PySem.W.keepIn K (.ref f7) = true)
    (a8 : PySem.W.nsIn K mainGlobals "split_blocks" = some (some (.ref f8)))
    (l8 : K.lookup f8 = some ⟨oc8, od8, .func (PySem.W.fnOf "split_blocks" "split_blocks" (defArgs sSplit) (defBody sSplit) (defScope sSplit) .none kV8 dc8 pm8 an8 cd8 ct8), sl8⟩)
    (c8 : PySem.W.codeIn K cd8 "split_blocks" = true) (k8 : PySem.W.keepIn K (.ref f8) = true)
    (a9 : PySem.W.nsIn K mainGlobals "placed_blocks" = some (some (.ref f9)))
    (l9 : K.lookup f9 = some ⟨oc9, od9, .func (PySem.W.fnOf "placed_blocks" "placed_blocks" (defArgs sPlaced) (defBody sPlaced) (defScope sPlaced) .none kV9 dc9 pm9 an9 (.ref cc9) ct9), sl9⟩)
    (c9 : PySem.W.codeIn K (.ref cc9) "placed_blocks" = true) (k9 : PySem.W.keepIn K (.ref f9) = true)
    (lc9 : K.lookup cc9 = some ⟨ec9, dd9, .fields vs9, sc9⟩) (v9 : vs9[11]? = some (.ref tt9)) (nt9 : K.lookup tt9 = none)
    (a10 : PySem.W.nsIn K mainGlobals "merge_queues" = some (some (.ref f10)))
    (l10 : K.lookup f10 = some ⟨oc10, od10, .func (PySem.W.fnOf "merge_queues" "merge_queues" (defArgs sMergeQ) (defBody sMergeQ) (defScope sMergeQ) .none kV10 dc10 pm10 an10 cd10 ct10), sl10⟩)
    (c10 : PySem.W.codeIn K cd10 "merge_queues" = true) (k10 : PySem.W.keepIn K (.ref f10) = true)
    (a11 : PySem.W.nsIn K mainGlobals "spread_blocks" = some (some (.ref f11)))
    (l11 : K.lookup f11 = some ⟨oc11, od11, .func (PySem.W.fnOf "spread_blocks" "spread_blocks" (defArgs sSpreadBlocks) (defBody sSpreadBlocks) (defScope sSpreadBlocks) .none kV11 dc11 pm11 an11 cd11 ct11), sl11⟩)
    (c11 : PySem.W.codeIn K cd11 "spread_blocks" = true) (k11 : PySem.W.keepIn K (.ref f11) = true)
    (a12 : PySem.W.nsIn K mainGlobals "merged" = some (some (.ref f12)))
    (l12 : K.lookup f12 = some ⟨oc12, od12, .func (PySem.W.fnOf "merged" "merged" (defArgs sMerged) (defBody sMerged) (defScope sMerged) .none kV12 dc12 pm12 an12 cd12 ct12), sl12⟩)
    (c12 : PySem.W.codeIn K cd12 "merged" = true) (k12 : PySem.W.keepIn K (.ref f12) = true)
    (a13 : PySem.W.nsIn K mainGlobals "rank_of" = some (some (.ref f13)))
    (l13 : K.lookup f13 = some ⟨oc13, od13, .func (PySem.W.fnOf "rank_of" "rank_of" (defArgs sRankOf) (defBody sRankOf) (defScope sRankOf) .none kV13 dc13 pm13 an13 cd13 ct13), sl13⟩)
    (c13 : PySem.W.codeIn K cd13 "rank_of" = true) (k13 : PySem.W.keepIn K (.ref f13) = true)
    (a14 : PySem.W.nsIn K mainGlobals "are_lengths" = some (some (.ref f14)))
    (l14 : K.lookup f14 = some ⟨oc14, od14, .func (PySem.W.fnOf "are_lengths" "are_lengths" (defArgs sAreLengths) (defBody sAreLengths) (defScope sAreLengths) .none kV14 dc14 pm14 an14 cd14 ct14), sl14⟩)
    (c14 : PySem.W.codeIn K cd14 "are_lengths" = true) (k14 : PySem.W.keepIn K (.ref f14) = true)
    (a15 : PySem.W.nsIn K mainGlobals "require_lengths" = some (some (.ref f15)))
    (l15 : K.lookup f15 = some ⟨oc15, od15, .func (PySem.W.fnOf "require_lengths" "require_lengths" (defArgs sRequireLengths) (defBody sRequireLengths) (defScope sRequireLengths) .none kV15 dc15 pm15 an15 cd15 ct15), sl15⟩)
    (c15 : PySem.W.codeIn K cd15 "require_lengths" = true) (k15 : PySem.W.keepIn K (.ref f15) = true)
    (a16 : PySem.W.nsIn K mainGlobals "slots_of" = some (some (.ref f16)))
    (l16 : K.lookup f16 = some ⟨oc16, od16, .func (PySem.W.fnOf "slots_of" "slots_of" (defArgs sSlotsOf) (defBody sSlotsOf) (defScope sSlotsOf) .none kV16 dc16 pm16 an16 cd16 ct16), sl16⟩)
    (c16 : PySem.W.codeIn K cd16 "slots_of" = true) (k16 : PySem.W.keepIn K (.ref f16) = true)
    (a17 : PySem.W.nsIn K mainGlobals "full_room" = some (some (.ref f17)))
    (l17 : K.lookup f17 = some ⟨oc17, od17, .func (PySem.W.fnOf "full_room" "full_room" (defArgs sFullRoom) (defBody sFullRoom) (defScope sFullRoom) .none kV17 dc17 pm17 an17 cd17 ct17), sl17⟩)
    (c17 : PySem.W.codeIn K cd17 "full_room" = true) (k17 : PySem.W.keepIn K (.ref f17) = true)
    (a18 : PySem.W.nsIn K mainGlobals "room_in" = some (some (.ref f18)))
    (l18 : K.lookup f18 = some ⟨oc18, od18, .func (PySem.W.fnOf "room_in" "room_in" (defArgs sRoomIn) (defBody sRoomIn) (defScope sRoomIn) .none kV18 dc18 pm18 an18 cd18 ct18), sl18⟩)
    (c18 : PySem.W.codeIn K cd18 "room_in" = true) (k18 : PySem.W.keepIn K (.ref f18) = true)
    (a19 : PySem.W.nsIn K mainGlobals "ways_before" = some (some (.ref f19)))
    (l19 : K.lookup f19 = some ⟨oc19, od19, .func (PySem.W.fnOf "ways_before" "ways_before" (defArgs sWaysBefore) (defBody sWaysBefore) (defScope sWaysBefore) .none kV19 dc19 pm19 an19 cd19 ct19), sl19⟩)
    (c19 : PySem.W.codeIn K cd19 "ways_before" = true) (k19 : PySem.W.keepIn K (.ref f19) = true)
    (a20 : PySem.W.nsIn K mainGlobals "ways_of" = some (some (.ref f20)))
    (l20 : K.lookup f20 = some ⟨oc20, od20, .func (PySem.W.fnOf "ways_of" "ways_of" (defArgs sWaysOf) (defBody sWaysOf) (defScope sWaysOf) .none kV20 dc20 pm20 an20 cd20 ct20), sl20⟩)
    (c20 : PySem.W.codeIn K cd20 "ways_of" = true) (k20 : PySem.W.keepIn K (.ref f20) = true)
    (a21 : PySem.W.nsIn K mainGlobals "options_in" = some (some (.ref f21)))
    (l21 : K.lookup f21 = some ⟨oc21, od21, .func (PySem.W.fnOf "options_in" "options_in" (defArgs sOptionsIn) (defBody sOptionsIn) (defScope sOptionsIn) .none kV21 dc21 pm21 an21 cd21 ct21), sl21⟩)
    (c21 : PySem.W.codeIn K cd21 "options_in" = true) (k21 : PySem.W.keepIn K (.ref f21) = true)
    (a22 : PySem.W.nsIn K mainGlobals "count_with_lengths" = some (some (.ref f22)))
    (l22 : K.lookup f22 = some ⟨oc22, od22, .func (PySem.W.fnOf "count_with_lengths" "count_with_lengths" (defArgs sCountWithLengths) (defBody sCountWithLengths) (defScope sCountWithLengths) .none kV22 dc22 pm22 an22 cd22 ct22), sl22⟩)
    (c22 : PySem.W.codeIn K cd22 "count_with_lengths" = true) (k22 : PySem.W.keepIn K (.ref f22) = true)
    (a23 : PySem.W.nsIn K mainGlobals "nth_with_lengths" = some (some (.ref f23)))
    (l23 : K.lookup f23 = some ⟨oc23, od23, .func (PySem.W.fnOf "nth_with_lengths" "nth_with_lengths" (defArgs sNthWithLengths) (defBody sNthWithLengths) (defScope sNthWithLengths) .none kV23 dc23 pm23 an23 cd23 ct23), sl23⟩)
    (c23 : PySem.W.codeIn K cd23 "nth_with_lengths" = true) (k23 : PySem.W.keepIn K (.ref f23) = true)
    (a24 : PySem.W.nsIn K mainGlobals "_law_can" = some (some (.ref f24)))
    (l24 : K.lookup f24 = some ⟨oc24, od24, .func (PySem.W.fnOf "_law_can" "_law_can" (defArgs sLawCan) (defBody sLawCan) (defScope sLawCan) .none kV24 dc24 pm24 an24 cd24 ct24), sl24⟩)
    (c24 : PySem.W.codeIn K cd24 "_law_can" = true) (k24 : PySem.W.keepIn K (.ref f24) = true)
    (a25 : PySem.W.nsIn K mainGlobals "_law_scoop" = some (some (.ref f25)))
    (l25 : K.lookup f25 = some ⟨oc25, od25, .func (PySem.W.fnOf "_law_scoop" "_law_scoop" (defArgs sLawScoop) (defBody sLawScoop) (defScope sLawScoop) .none kV25 dc25 pm25 an25 cd25 ct25), sl25⟩)
    (c25 : PySem.W.codeIn K cd25 "_law_scoop" = true) (k25 : PySem.W.keepIn K (.ref f25) = true)
    (a26 : PySem.W.nsIn K mainGlobals "_law_multinomial" = some (some (.ref f26)))
    (l26 : K.lookup f26 = some ⟨oc26, od26, .func (PySem.W.fnOf "_law_multinomial" "_law_multinomial" (defArgs sLawMultinomial) (defBody sLawMultinomial) (defScope sLawMultinomial) .none kV26 dc26 pm26 an26 cd26 ct26), sl26⟩)
    (c26 : PySem.W.codeIn K cd26 "_law_multinomial" = true) (k26 : PySem.W.keepIn K (.ref f26) = true)
    (a27 : PySem.W.nsIn K mainGlobals "_law_parts" = some (some (.ref f27)))
    (l27 : K.lookup f27 = some ⟨oc27, od27, .func (PySem.W.fnOf "_law_parts" "_law_parts" (defArgs sLawParts) (defBody sLawParts) (defScope sLawParts) .none kV27 dc27 pm27 an27 cd27 ct27), sl27⟩)
    (c27 : PySem.W.codeIn K cd27 "_law_parts" = true) (k27 : PySem.W.keepIn K (.ref f27) = true)
    (a28 : PySem.W.nsIn K mainGlobals "_law_right" = some (some (.ref f28)))
    (l28 : K.lookup f28 = some ⟨oc28, od28, .func (PySem.W.fnOf "_law_right" "_law_right" (defArgs sLawRight) (defBody sLawRight) (defScope sLawRight) .none kV28 dc28 pm28 an28 cd28 ct28), sl28⟩)
    (c28 : PySem.W.codeIn K cd28 "_law_right" = true) (k28 : PySem.W.keepIn K (.ref f28) = true)
    (a29 : PySem.W.nsIn K mainGlobals "law" = some (some (.ref f29)))
    (l29 : K.lookup f29 = some ⟨oc29, od29, .func (PySem.W.fnOf "law" "law" (defArgs sLaw) (defBody sLaw) (defScope sLaw) .none kV29 dc29 pm29 an29 cd29 ct29), sl29⟩)
    (c29 : PySem.W.codeIn K cd29 "law" = true) (k29 : PySem.W.keepIn K (.ref f29) = true)
    {tk1 : Tok}
    (w1 : PySem.W.nsIn K mainGlobals "MOST_CASES" = some (some (.int 20000 tk1)))
    (z1 : PySem.W.nsIn K mainGlobals "isinstance" = some none)
    (z2 : PySem.W.nsIn K mainGlobals "int" = some none)
    (z3 : PySem.W.nsIn K mainGlobals "bool" = some none)
    (z4 : PySem.W.nsIn K mainGlobals "list" = some none)
    (z5 : PySem.W.nsIn K mainGlobals "all" = some none)
    (z6 : PySem.W.nsIn K mainGlobals "len" = some none)
    (z7 : PySem.W.nsIn K mainGlobals "set" = some none)
    (z8 : PySem.W.nsIn K mainGlobals "max" = some none)
    (z9 : PySem.W.nsIn K mainGlobals "min" = some none)
    (z10 : PySem.W.nsIn K mainGlobals "range" = some none)
    (z11 : PySem.W.nsIn K mainGlobals "enumerate" = some none)
    (z12 : PySem.W.nsIn K mainGlobals "repr" = some none)
    (z13 : PySem.W.nsIn K mainGlobals "sorted" = some none)
    (z14 : PySem.W.nsIn K mainGlobals "tuple" = some none)
    (z15 : PySem.W.nsIn K mainGlobals "zip" = some none)
    (z16 : PySem.W.nsIn K mainGlobals "reversed" = some none)
    (z17 : PySem.W.nsIn K mainGlobals "sum" = some none)
    (z18 : PySem.W.nsIn K mainGlobals "str" = some none)
    (z19 : PySem.W.nsIn K mainGlobals "any" = some none)
    (z20 : PySem.W.nsIn K mainGlobals "abs" = some none)
    (z21 : PySem.W.nsIn K mainGlobals "divmod" = some none)
    (z22 : PySem.W.nsIn K mainGlobals "dict" = some none)
    : ∃ (fd : FuncData) (cs : List (Addr × Addr)) (sp : Sp), (∀ p ∈ cs, h.get? p.2 = some { cls := .none, data := .fields #[] }) ∧ (∀ p ∈ cs, K.lookup p.2 = none) ∧ (∀ p ∈ cs, PySem.W.CodeHd h p.1 p.2) ∧
      (∀ (s : Shared) (u : Value), BindsTo s fd ⟨[u], []⟩ [("script", u)]) ∧
      (∀ (H : Hp) (a : Addr) (ns : List Int), ns.length ≤ 63 → (∀ p ∈ cs, H p.2 = some (.tbl #[])) → SqL K H a (ns.map V.int) → sp [.ref a] H (fun v _ => v = .bl true) fun _ _ _ => False) ∧
      ∀ base : Heap, K.In base → base.Ns mainGlobals mg → (∀ p ∈ cs, TabB base mg p.1 p.2) → FnG l.prog w K mg base 7 fa fd ["script"] sp := by
  have e := hfa.symm.trans (PySem.W.mg_of X G a29)
  cases e
  have F1 := fun_mk (st := sInt) l1 c1 k1
  have g1 := PySem.W.mg_of X G a1
  have F2 := fun_mk (st := sIsIndex) l2 c2 k2
  have g2 := PySem.W.mg_of X G a2
  have F3 := fun_mk (st := sRequireIndex) l3 c3 k3
  have g3 := PySem.W.mg_of X G a3
  have F4 := fun_mk (st := sNums) l4 c4 k4
  have g4 := PySem.W.mg_of X G a4
  have F5 := fun_mk (st := sFam) l5 c5 k5
  have g5 := PySem.W.mg_of X G a5
  have F6 := fun_mk (st := sReq) l6 c6 k6
  have g6 := PySem.W.mg_of X G a6
  have F7 := fun_mk (st := sReqF) l7 c7 k7
  have g7 := PySem.W.mg_of X G a7
  have F8 := fun_mk (st := sSplit) l8 c8 k8
  have g8 := PySem.W.mg_of X G a8
  have F9 := fun_mk (st := sPlaced) l9 c9 k9
  have g9 := PySem.W.mg_of X G a9
  have F10 := fun_mk (st := sMergeQ) l10 c10 k10
  have g10 := PySem.W.mg_of X G a10
  have F11 := fun_mk (st := sSpreadBlocks) l11 c11 k11
  have g11 := PySem.W.mg_of X G a11
  have F12 := fun_mk (st := sMerged) l12 c12 k12
  have g12 := PySem.W.mg_of X G a12
  have F13 := fun_mk (st := sRankOf) l13 c13 k13
  have g13 := PySem.W.mg_of X G a13
  have F14 := fun_mk (st := sAreLengths) l14 c14 k14
  have g14 := PySem.W.mg_of X G a14
  have F15 := fun_mk (st := sRequireLengths) l15 c15 k15
  have g15 := PySem.W.mg_of X G a15
  have F16 := fun_mk (st := sSlotsOf) l16 c16 k16
  have g16 := PySem.W.mg_of X G a16
  have F17 := fun_mk (st := sFullRoom) l17 c17 k17
  have g17 := PySem.W.mg_of X G a17
  have F18 := fun_mk (st := sRoomIn) l18 c18 k18
  have g18 := PySem.W.mg_of X G a18
  have F19 := fun_mk (st := sWaysBefore) l19 c19 k19
  have g19 := PySem.W.mg_of X G a19
  have F20 := fun_mk (st := sWaysOf) l20 c20 k20
  have g20 := PySem.W.mg_of X G a20
  have F21 := fun_mk (st := sOptionsIn) l21 c21 k21
  have g21 := PySem.W.mg_of X G a21
  have F22 := fun_mk (st := sCountWithLengths) l22 c22 k22
  have g22 := PySem.W.mg_of X G a22
  have F23 := fun_mk (st := sNthWithLengths) l23 c23 k23
  have g23 := PySem.W.mg_of X G a23
  have F24 := fun_mk (st := sLawCan) l24 c24 k24
  have g24 := PySem.W.mg_of X G a24
  have F25 := fun_mk (st := sLawScoop) l25 c25 k25
  have g25 := PySem.W.mg_of X G a25
  have F26 := fun_mk (st := sLawMultinomial) l26 c26 k26
  have g26 := PySem.W.mg_of X G a26
  have F27 := fun_mk (st := sLawParts) l27 c27 k27
  have g27 := PySem.W.mg_of X G a27
  have F28 := fun_mk (st := sLawRight) l28 c28 k28
  have g28 := PySem.W.mg_of X G a28
  have F29 := fun_mk (st := sLaw) l29 c29 k29
  have g29 := PySem.W.mg_of X G a29
  have b1 := F1.binds (ps := ["value"]) fun _ _ _ _ _ _ us hl => match us, hl with | [_], _ => rfl
  have b2 := F2.binds (ps := ["value", "many"]) fun _ _ _ _ _ _ us hl => match us, hl with | [_, _], _ => rfl
  have b3 := F3.binds (ps := ["value", "many"]) fun _ _ _ _ _ _ us hl => match us, hl with | [_, _], _ => rfl
  have b4 := F4.binds (ps := ["value"]) fun _ _ _ _ _ _ us hl => match us, hl with | [_], _ => rfl
  have b5 := F5.binds (ps := ["value"]) fun _ _ _ _ _ _ us hl => match us, hl with | [_], _ => rfl
  have b6 := F6.binds (ps := ["value"]) fun _ _ _ _ _ _ us hl => match us, hl with | [_], _ => rfl
  have b7 := F7.binds (ps := ["value"]) fun _ _ _ _ _ _ us hl => match us, hl with | [_], _ => rfl
  have b8 := F8.binds (ps := ["numbers"]) fun _ _ _ _ _ _ us hl => match us, hl with | [_], _ => rfl
  have b9 := F9.binds (ps := ["queues"]) fun _ _ _ _ _ _ us hl => match us, hl with | [_], _ => rfl
  have b10 := F10.binds (ps := ["queues"]) fun _ _ _ _ _ _ us hl => match us, hl with | [_], _ => rfl
  have b11 := F11.binds (ps := ["blocks", "assignment", "many"]) fun _ _ _ _ _ _ us hl => match us, hl with | [_, _, _], _ => rfl
  have b12 := F12.binds (ps := ["family"]) fun _ _ _ _ _ _ us hl => match us, hl with | [_], _ => rfl
  have b13 := F13.binds (ps := ["family"]) fun _ _ _ _ _ _ us hl => match us, hl with | [_], _ => rfl
  have b14 := F14.binds (ps := ["value"]) fun _ _ _ _ _ _ us hl => match us, hl with | [_], _ => rfl
  have b15 := F15.binds (ps := ["value"]) fun _ _ _ _ _ _ us hl => match us, hl with | [_], _ => rfl
  have b16 := F16.binds (ps := ["lengths"]) fun _ _ _ _ _ _ us hl => match us, hl with | [_], _ => rfl
  have b17 := F17.binds (ps := ["slots"]) fun _ _ _ _ _ _ us hl => match us, hl with | [_], _ => rfl
  have b18 := F18.binds (ps := ["room", "slot"]) fun _ _ _ _ _ _ us hl => match us, hl with | [_, _], _ => rfl
  have b19 := F19.binds (ps := ["ways", "size", "slots"]) fun _ _ _ _ _ _ us hl => match us, hl with | [_, _, _], _ => rfl
  have b20 := F20.binds (ps := ["blocks", "slots"]) fun _ _ _ _ _ _ us hl => match us, hl with | [_, _], _ => rfl
  have b21 := F21.binds (ps := ["room", "ways", "size", "slots"]) fun _ _ _ _ _ _ us hl => match us, hl with | [_, _, _, _], _ => rfl
  have b22 := F22.binds (ps := ["result", "lengths"]) fun _ _ _ _ _ _ us hl => match us, hl with | [_, _], _ => rfl
  have b23 := F23.binds (ps := ["result", "lengths", "number"]) fun _ _ _ _ _ _ us hl => match us, hl with | [_, _, _], _ => rfl
  have b24 := F24.binds (ps := ["script", "k"]) fun _ _ _ _ _ _ us hl => match us, hl with | [_, _], _ => rfl
  have b25 := F25.binds (ps := ["can", "many"]) fun _ _ _ _ _ _ us hl => match us, hl with | [_, _], _ => rfl
  have b26 := F26.binds (ps := ["parts"]) fun _ _ _ _ _ _ us hl => match us, hl with | [_], _ => rfl
  have b27 := F27.binds (ps := ["can"]) fun _ _ _ _ _ _ us hl => match us, hl with | [_], _ => rfl
  have b28 := F28.binds (ps := ["can"]) fun _ _ _ _ _ _ us hl => match us, hl with | [_], _ => rfl
  have Tx : Txt mg := ⟨PySem.W.mg_none_of X G z1, PySem.W.mg_none_of X G z2, PySem.W.mg_none_of X G z3, PySem.W.mg_none_of X G z4, PySem.W.mg_none_of X G z5, PySem.W.mg_none_of X G z6, PySem.W.mg_none_of X G z7, PySem.W.mg_none_of X G z8, PySem.W.mg_none_of X G z9, PySem.W.mg_none_of X G z10, PySem.W.mg_none_of X G z11, PySem.W.mg_none_of X G z12, PySem.W.mg_none_of X G z13, PySem.W.mg_none_of X G z14, PySem.W.mg_none_of X G z15, PySem.W.mg_none_of X G z16, PySem.W.mg_none_of X G z17, PySem.W.mg_none_of X G z18, PySem.W.mg_none_of X G z19, PySem.W.mg_none_of X G z20, PySem.W.mg_none_of X G z21, PySem.W.mg_none_of X G z22, ⟨_, PySem.W.mg_of X G w1⟩⟩
  have tb9 := tab9 f9 cc9 tt9 _ _ _ _ _ _ g9 l9 rfl rfl lc9 v9
  refine ⟨(PySem.W.fnOf "law" "law" (defArgs sLaw) (defBody sLaw) (defScope sLaw) .none kV29 dc29 pm29 an29 cd29 ct29), [(cc9, tt9)], spLaw K [(tt9, ("placed_blocks.<locals>." : Str) ++ "<lambda>")], ?_, ?_, ?_, fun s u => .of_eq rfl, ?_, ?_⟩
  · intro p hp
    have e : p = (cc9, tt9) := by simpa using hp
    rw [e]
    exact tb9.1
  · intro p hp
    have e : p = (cc9, tt9) := by simpa using hp
    rw [e]
    exact nt9
  · intro p hp
    have e : p = (cc9, tt9) := by simpa using hp
    rw [e]
    exact tb9.2
  · intro H a ns hl hH hS
    refine ⟨a, ns, rfl, hS, hl, ?_, fun _ => rfl⟩
    intro p hp
    have e : p = (tt9, ("placed_blocks.<locals>." : Str) ++ "<lambda>") := by simpa using hp
    rw [e]
    exact TabS.nil (hH (cc9, tt9) (by simp))
  · intro base _ _ hB
    have TB9 := hB (cc9, tt9) (by simp)
    have G_is_integer := ok_int (P := l.prog) (w := w) (base := base) (k := 0) F1 Tx
    have C_is_integer := Cal.of G_is_integer g1 F1.kp b1
    have G_split_blocks := ok_split (P := l.prog) (w := w) (base := base) (k := 0) F8 Tx
    have C_split_blocks := Cal.of G_split_blocks g8 F8.kp b8
    have C_spread_blocks := Cal.of (ok_SpreadBlocks (P := l.prog) (w := w) (base := base) (mg := mg) (k := 0) F11 Tx ) g11 F11.kp b11
    have C_slots_of := Cal.of (ok_SlotsOf (P := l.prog) (w := w) (base := base) (mg := mg) (k := 0) F16 Tx ) g16 F16.kp b16
    have C_full_room := Cal.of (ok_FullRoom (P := l.prog) (w := w) (base := base) (mg := mg) (k := 0) F17 Tx ) g17 F17.kp b17
    have C_room_in := Cal.of (ok_RoomIn (P := l.prog) (w := w) (base := base) (mg := mg) (k := 0) F18 Tx ) g18 F18.kp b18
    have C__law_can := Cal.of (ok_LawCan (P := l.prog) (w := w) (base := base) (mg := mg) (k := 0) F24 Tx ) g24 F24.kp b24
    have C__law_scoop := Cal.of (ok_LawScoop (P := l.prog) (w := w) (base := base) (mg := mg) (k := 0) F25 Tx ) g25 F25.kp b25
    have C__law_multinomial := Cal.of (ok_LawMultinomial (P := l.prog) (w := w) (base := base) (mg := mg) (k := 0) F26 Tx ) g26 F26.kp b26
    have C_is_index := Cal.of (ok_IsIndex (P := l.prog) (w := w) (base := base) (mg := mg) (k := 1) F2 Tx (C_is_integer.mono (show 1 ≤ 1 by decide))) g2 F2.kp b2
    have G_is_numbers := ok_nums (P := l.prog) (w := w) (base := base) (k := 0) F4 Tx F1 g1 b1
    have C_is_numbers := Cal.of G_is_numbers g4 F4.kp b4
    have C_are_lengths := Cal.of (ok_AreLengths (P := l.prog) (w := w) (base := base) (mg := mg) (k := 1) F14 Tx (C_is_integer.mono (show 1 ≤ 1 by decide))) g14 F14.kp b14
    have C_ways_before := Cal.of (ok_WaysBefore (P := l.prog) (w := w) (base := base) (mg := mg) (k := 1) F19 Tx (C_room_in.mono (show 1 ≤ 1 by decide))) g19 F19.kp b19
    have C_options_in := Cal.of (ok_OptionsIn (P := l.prog) (w := w) (base := base) (mg := mg) (k := 1) F21 Tx (C_room_in.mono (show 1 ≤ 1 by decide))) g21 F21.kp b21
    have C__law_parts := Cal.of (ok_LawParts (P := l.prog) (w := w) (base := base) (mg := mg) (k := 1) F27 Tx (C__law_scoop.mono (show 1 ≤ 1 by decide))) g27 F27.kp b27
    have C_require_index := Cal.of (ok_RequireIndex (P := l.prog) (w := w) (base := base) (mg := mg) (k := 2) F3 Tx (C_is_index.mono (show 2 ≤ 2 by decide))) g3 F3.kp b3
    have G_is_family := ok_fam (k := 2) F5 Tx (G_is_numbers.mono (show 2 ≤ 2 by decide)) g4 F4.kp b4
    have C_is_family := Cal.of G_is_family g5 F5.kp b5
    have G_require_numbers := ok_req (k := 2) F6 (G_is_numbers.mono (show 2 ≤ 2 by decide)) g4 F4.kp b4
    have C_require_numbers := Cal.of G_require_numbers g6 F6.kp b6
    have G_placed_blocks := ok_placed (P := l.prog) (w := w) (k := 0) l9 c9 Tx TB9 (List.mem_singleton.mpr rfl) (fun p hp _ => by rw [List.mem_singleton.mp hp]) (G_split_blocks.mono (show 1 ≤ 2 by decide)) g8 F8.kp b8
    have C_placed_blocks := Cal.of G_placed_blocks g9 F9.kp b9
    have C_require_lengths := Cal.of (ok_RequireLengths (P := l.prog) (w := w) (base := base) (mg := mg) (k := 2) F15 Tx (C_are_lengths.mono (show 2 ≤ 2 by decide))) g15 F15.kp b15
    have C_ways_of := Cal.of (ok_WaysOf (P := l.prog) (w := w) (base := base) (mg := mg) (k := 2) F20 Tx (C_ways_before.mono (show 2 ≤ 2 by decide))) g20 F20.kp b20
    have G_require_family := ok_reqf (k := 3) F7 (G_is_family.mono (show 3 ≤ 3 by decide)) g5 F5.kp b5
    have C_require_family := Cal.of G_require_family g7 F7.kp b7
    have G_merge_queues := ok_mergeq (k := 3) F10 (G_placed_blocks.mono (show 3 ≤ 3 by decide)) g9 F9.kp b9
    have C_merge_queues := Cal.of G_merge_queues g10 F10.kp b10
    have C_count_with_lengths := Cal.of (ok_CountWithLengths (P := l.prog) (w := w) (base := base) (mg := mg) (k := 3) F22 Tx (C_require_numbers.mono (show 3 ≤ 3 by decide)) (C_split_blocks.mono (show 1 ≤ 3 by decide)) (C_require_lengths.mono (show 3 ≤ 3 by decide)) (C_slots_of.mono (show 1 ≤ 3 by decide)) (C_full_room.mono (show 1 ≤ 3 by decide)) (C_ways_of.mono (show 3 ≤ 3 by decide))) g22 F22.kp b22
    have C_merged := Cal.of (ok_Merged (P := l.prog) (w := w) (base := base) (mg := mg) (k := 4) F12 Tx (C_require_family.mono (show 4 ≤ 4 by decide)) (C_merge_queues.mono (show 4 ≤ 4 by decide))) g12 F12.kp b12
    have C_rank_of := Cal.of (ok_RankOf (P := l.prog) (w := w) (base := base) (mg := mg) (k := 4) F13 Tx (C_require_family.mono (show 4 ≤ 4 by decide)) (C_placed_blocks.mono (show 3 ≤ 4 by decide))) g13 F13.kp b13
    have C_nth_with_lengths := Cal.of (ok_NthWithLengths (P := l.prog) (w := w) (base := base) (mg := mg) (k := 4) F23 Tx (C_require_index.mono (show 3 ≤ 4 by decide)) (C_split_blocks.mono (show 1 ≤ 4 by decide)) (C_spread_blocks.mono (show 1 ≤ 4 by decide)) (C_slots_of.mono (show 1 ≤ 4 by decide)) (C_full_room.mono (show 1 ≤ 4 by decide)) (C_ways_of.mono (show 3 ≤ 4 by decide)) (C_options_in.mono (show 2 ≤ 4 by decide)) (C_count_with_lengths.mono (show 4 ≤ 4 by decide))) g23 F23.kp b23
    have C__law_right := Cal.of (ok_LawRight (P := l.prog) (w := w) (base := base) (mg := mg) (k := 5) F28 Tx (C_merged.mono (show 5 ≤ 5 by decide)) (C_rank_of.mono (show 5 ≤ 5 by decide)) (C_count_with_lengths.mono (show 4 ≤ 5 by decide)) (C_nth_with_lengths.mono (show 5 ≤ 5 by decide)) (C__law_scoop.mono (show 1 ≤ 5 by decide)) (C__law_multinomial.mono (show 1 ≤ 5 by decide)) (C__law_parts.mono (show 2 ≤ 5 by decide))) g28 F28.kp b28
    exact ok_Law (k := 6) F29 Tx (C__law_can.mono (show 1 ≤ 6 by decide)) (C__law_right.mono (show 6 ≤ 6 by decide))
end My
open PySem PySem.W PyProof.Rows
set_option maxHeartbeats 0 in
theorem PySem.Challenge.cw_leastheads_k21_many_families_with_length_holds : PySem.Challenge.rw_leastheads_k21_many_families_with_length.Holds := by
  w_on; o_law; k_head; (case hw => w_witness2)
  k_fill
  refine My.walkGT (l := PySem.Challenge.rw_leastheads_k21_many_families_with_length) (n := 63) (k := 7) (x := "script") rfl (by decide) rfl ⟨rfl, by decide, by decide⟩ (fun w h Y => PySem.W.km_in_of Y) ?F
  case F =>
    intro w mg fa h KX G hmg tabs
    refine' My.all_in KX G hmg (tabs "placed_blocks" (by decide +kernel)) ?a1 ?l1 ?c1 ?k1 ?a2 ?l2 ?c2 ?k2 ?a3 ?l3 ?c3 ?k3 ?a4 ?l4 ?c4 ?k4 ?a5 ?l5 ?c5 ?k5 ?a6 ?l6 ?c6 ?k6 ?a7 ?l7 ?c7 ?k7 ?a8 ?l8 ?c8 ?k8 ?a9 ?l9 ?c9 ?k9 ?lc9 ?v9 ?nt9 ?a10 ?l10 ?c10 ?k10 ?a11 ?l11 ?c11 ?k11 ?a12 ?l12 ?c12 ?k12 ?a13 ?l13 ?c13 ?k13 ?a14 ?l14 ?c14 ?k14 ?a15 ?l15 ?c15 ?k15 ?a16 ?l16 ?c16 ?k16 ?a17 ?l17 ?c17 ?k17 ?a18 ?l18 ?c18 ?k18 ?a19 ?l19 ?c19 ?k19 ?a20 ?l20 ?c20 ?k20 ?a21 ?l21 ?c21 ?k21 ?a22 ?l22 ?c22 ?k22 ?a23 ?l23 ?c23 ?k23 ?a24 ?l24 ?c24 ?k24 ?a25 ?l25 ?c25 ?k25 ?a26 ?l26 ?c26 ?k26 ?a27 ?l27 ?c27 ?k27 ?a28 ?l28 ?c28 ?k28 ?a29 ?l29 ?c29 ?k29 ?w1 ?z1 ?z2 ?z3 ?z4 ?z5 ?z6 ?z7 ?z8 ?z9 ?z10 ?z11 ?z12 ?z13 ?z14 ?z15 ?z16 ?z17 ?z18 ?z19 ?z20 ?z21 ?z22
    (case a1 => k_is); (case l1 => k_is); (case c1 => k_is); (case k1 => k_is); (case a2 => k_is); (case l2 => k_is); (case c2 => k_is); (case k2 => k_is)
    (case a3 => k_is); (case l3 => k_is); (case c3 => k_is); (case k3 => k_is); (case a4 => k_is); (case l4 => k_is); (case c4 => k_is); (case k4 => k_is)
    (case a5 => k_is); (case l5 => k_is); (case c5 => k_is); (case k5 => k_is); (case a6 => k_is); (case l6 => k_is); (case c6 => k_is); (case k6 => k_is)
    (case a7 => k_is); (case l7 => k_is); (case c7 => k_is); (case k7 => k_is); (case a8 => k_is); (case l8 => k_is); (case c8 => k_is); (case k8 => k_is)
    (case a9 => k_is); (case l9 => k_is); (case c9 => k_is); (case k9 => k_is); (case lc9 => k_is); (case v9 => rfl); (case nt9 => kernel_rfl); (case a10 => k_is)
    (case l10 => k_is); (case c10 => k_is); (case k10 => k_is); (case a11 => k_is); (case l11 => k_is); (case c11 => k_is); (case k11 => k_is); (case a12 => k_is)
    (case l12 => k_is); (case c12 => k_is); (case k12 => k_is); (case a13 => k_is); (case l13 => k_is); (case c13 => k_is); (case k13 => k_is); (case a14 => k_is)
    (case l14 => k_is); (case c14 => k_is); (case k14 => k_is); (case a15 => k_is); (case l15 => k_is); (case c15 => k_is); (case k15 => k_is); (case a16 => k_is)
    (case l16 => k_is); (case c16 => k_is); (case k16 => k_is); (case a17 => k_is); (case l17 => k_is); (case c17 => k_is); (case k17 => k_is); (case a18 => k_is)
    (case l18 => k_is); (case c18 => k_is); (case k18 => k_is); (case a19 => k_is); (case l19 => k_is); (case c19 => k_is); (case k19 => k_is); (case a20 => k_is)
    (case l20 => k_is); (case c20 => k_is); (case k20 => k_is); (case a21 => k_is); (case l21 => k_is); (case c21 => k_is); (case k21 => k_is); (case a22 => k_is)
    (case l22 => k_is); (case c22 => k_is); (case k22 => k_is); (case a23 => k_is); (case l23 => k_is); (case c23 => k_is); (case k23 => k_is); (case a24 => k_is)
    (case l24 => k_is); (case c24 => k_is); (case k24 => k_is); (case a25 => k_is); (case l25 => k_is); (case c25 => k_is); (case k25 => k_is); (case a26 => k_is)
    (case l26 => k_is); (case c26 => k_is); (case k26 => k_is); (case a27 => k_is); (case l27 => k_is); (case c27 => k_is); (case k27 => k_is); (case a28 => k_is)
    (case l28 => k_is); (case c28 => k_is); (case k28 => k_is); (case a29 => k_is); (case l29 => k_is); (case c29 => k_is); (case k29 => k_is); (case w1 => k_is)
    (case z1 => k_is); (case z2 => k_is); (case z3 => k_is); (case z4 => k_is); (case z5 => k_is); (case z6 => k_is); (case z7 => k_is); (case z8 => k_is)
    (case z9 => k_is); (case z10 => k_is); (case z11 => k_is); (case z12 => k_is); (case z13 => k_is); (case z14 => k_is); (case z15 => k_is); (case z16 => k_is)
    (case z17 => k_is); (case z18 => k_is); (case z19 => k_is); (case z20 => k_is); (case z21 => k_is); (case z22 => k_is)
