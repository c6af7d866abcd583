import PyProof.Rows.All
import Wide.All
import OpenK.AllK
import Wide.FinOn
import KE.KStateDown
import Lean
import HandS.ForMost
import HandS.WordsExc
import HandS.Defaults
import HandS.Head0
import HandS.Head1
import HandS.Head2
import HandS.HeadEnd
import HandS.HeadHook1
import HandS.HeadHook2
import KE.DatumOrd
import PyProof.ListStr
import PyProof.StrOps2
import PyProof.ReprRoads
import HandS.Style
import HandS.Strs
import HandS.Star
import HandS.IsInst
import PyProof.Rows.SetFrom
import HandS.SetKeys
import PyProof.ReprBulk
import HandS.Walk
import HandS.ExcInit
import HandS.ExcIs
import KE.KExcInit
import HandS.ExcValue
import HandS.ExcBuiltin
import HandS.ExcField
import KE.KExcIs
import HandS.Wide
import HandS.NoneIn
import HandS.HotCalls
import HandS.Base
import HandS.Call
import HandS.Ends
import HandS.More
import HandS.Words
import PySem.Challenge.RW_streamwrights_k00_errors
set_option Elab.async false
set_option linter.all false
set_option maxRecDepth 100000
set_option maxHeartbeats 0
namespace Sw
open PySem PySem.Spec PyProof.Rows L2
/-! ### defs that are called where no repr is under way -/
structure FnG (P : Program) (w : World) (K : PySem.W.Frag) (mg : Str → Option Value) (base : Heap) (k : Nat) (f : Addr) (fd : FuncData) (ps : List Str) (sp : Sp) : Prop where
  len : ∀ vs H Q E, sp vs H Q E → vs.length = ps.length
  run : ∀ (A : Around) (out : List Env) (s : Shared) (H : Hp) (args : Args) (us : List Value) (vs : List V) (Q : VK) (E : XK), A.guards = some [] → Room k A → Env0 P w K mg base A out s H →
    BindsTo s fd args (ps.zip us) → Vals vs us → sp vs H Q E → codeAny (model P w) A (.call (.ref f) args) (CR CX0 out P w H s Q E) s
section
variable {P : Program} {w : World} {K : PySem.W.Frag} {mg : Str → Option Value} {base : Heap} {k : Nat} {f : Addr} {fd : FuncData} {ps : List Str} {sp : Sp}
theorem fng_ok (F : FnOk P w K mg base CX0 k f fd ps sp) : FnG P w K mg base k f fd ps sp :=
  ⟨F.len, fun A out s H args us vs Q E _ hr he hb hv h => F.run A out s H args us vs Q E hr he hb hv h⟩
/-- a def's body, told that no repr is under way -/
theorem fng_of {x q : Str} {pa : Arguments} {bo : List Stmt} {sc : Scope} {N : List Str} (F : FunD K x q pa bo sc [] [] f fd) (S : FnScope N ps sc) (hl : ∀ vs H Q E, sp vs H Q E → vs.length = ps.length)
    (hbo : ∀ (cv : Value) (A : Around) (out : List Env) (s : Shared) (H : Hp) (vs : List V) (Q : VK) (E : XK), A.guards = some [] → Room k (A.deeper (envOfC q sc s.heap.objs.size f cv)) → sp vs H Q E →
      ∃ t, PSs (cxOf CX0 P w K mg base N q sc f cv A out s H E) bo t ∧ t { nx := fun _ H' => Q .non H', rt := Q } (start N vs) H) : FnG P w K mg base (k + 1) f fd ps sp := by
  obtain ⟨oc, od, dV, kV, doc, pm, an, cv, ct, osl, rfl, lk, hco, _, _⟩ := F.ex
  refine ⟨hl, fun A out s H args us vs Q E hG hr he hb rv hs => ?_⟩
  have vl := hl _ _ _ _ hs
  have kin : K.In s.heap := he.mod.kin.keeps fun b o z => (he.bs b o z).1
  have nol : s.heap.NoLimit := he.mod.nolimit.keeps fun b o z => (he.bs b o z).1
  have knd : ∀ y ∈ ps.zip us, sc.names.lookup y.1 = some .local ∨ (sc.names.lookup y.1 = some .cell ∧ ((cellsFrom (s.heap.objs.size + 1) sc.names []).lookup y.1).isSome = true) := by
    intro y hy
    rcases S.par y.1 (List.of_mem_zip (show (y.1, y.2) ∈ ps.zip us from hy)).1 with z | z
    · exact .inl z
    · exact .inr ⟨z, PySem.W.cellsFrom_some _ _ _ (.inl z)⟩
  refine codeAny_call_function hr.depth (kin _ _ lk) rfl S.co S.gen rfl (PySem.W.codeRec_of kin hco) (hb _ _ _ _ ?_)
  refine wpAny_newFunctionEnv_cells S.kind knd fun env eq s1 z => ?_
  subst eq
  refine ⟨nol.keeps z.toInCall.keep, codeAny_func ?_⟩
  obtain ⟨t, ht, hq⟩ := hbo cv A out s H vs Q E hG (hr.deeper _) hs
  have J : Inv (cxOf CX0 P w K mg base N q sc f cv A out s H E) [] (start N vs) H s1 := inv_start S hr.hd he vl rv z
  refine wpAny_mono (ht.run [] s1 (start N vs) H _ J hq) (fun fl s2 hz => ?_) fun _ _ hz => hz
  have fin : ∀ {τ : L2.St} {H' : Hp} {v : V} {u : Value}, Inv (cxOf CX0 P w K mg base N q sc f cv A out s H E) [] τ H' s2 → RelV v u → Q v H' → CE out P w H s Q u s2 := by
    intro τ H' v u I r z
    exact ⟨v, H', I.os, I.bare, I.base, I.hok, r, z⟩
  cases fl with
  | ret u => obtain ⟨v, τ, H', I, r, z⟩ := hz; exact fin I r z
  | next => obtain ⟨τ, H', I, z⟩ := hz; exact fin (v := V.non) (u := Value.none) I rfl z
  | brk => obtain ⟨_, _, _, z⟩ := hz; exact z.elim
  | cont => obtain ⟨_, _, _, z⟩ := hz; exact z.elim
end
section
variable {X : Cx} {k : Nat} {f : Addr} {fd : FuncData} {ps : List Str} {sp : Sp} {x : Str} {p pos : Pos} {e : Expr} {es : List Expr} {ta : TA}
/-- a call of such a def -/
theorem pe_callG (hG : X.A.guards = some []) (F : FnG X.prog X.w X.K X.mg X.base k f fd ps sp) (hr : Room k X.A) (hg : Gl X x) (hm : X.mg x = some (.ref f)) (hk : PySem.W.keepIn X.K (.ref f) = true) (hb : Binds X.K fd ps [])
    (ha : PA X (e :: es) ta) (hd : (x == ("__debug__" : Str)) = false := by decide) (he : starEach (e :: es) X.env = (false, eval e X.env) :: starEach es X.env := by rfl)
    (hp : (backTo pos (starEach es X.env)).any (·.1) = false := by rfl) : PE X (.Call (.Name x p) (e :: es) [] pos) (fun σ H Q => ta σ H fun vs H1 => sp vs H1 Q E0) := by
  refine ⟨fun pins s σ H Q I h => wpAny_Call_Name_kw (ld_glob I hg hm ?_ hd)⟩
  refine PySem.W.callWith_K (h₀ := X.base) I.ok.mod.kin hk (thn (ha.run pos pins s σ H _ I h) fun us s1 ⟨vs, H1, J, r, q⟩ => ⟨J.kIn, ?_⟩) he hp
  have hl : (us ++ []).length = ps.length := by rw [List.append_nil, ← r.length]; exact F.len _ _ _ _ q
  have hbt : BindsTo s1 fd ⟨us, []⟩ (ps.zip us) := by
    have z := hb s1 us J.kIn hl
    rw [List.append_nil] at z
    exact z
  refine wpAny_call (codeAny_mono (F.run X.A X.stack s1 H1 ⟨us, []⟩ us vs Q E0 hG hr J.env0 hbt r q) fun r' s2 hz => ?_)
  cases r' with
  | error er => exact False.elim hz
  | ok fl =>
    cases fl with
    | ret u => exact J.after hz
    | next => exact False.elim hz
    | brk => exact False.elim hz
    | cont => exact False.elim hz
end
/-! ### the law's own call -/
theorem lawG_call {P : Program} {w : World} {K : PySem.W.Frag} {mg mb : Str → Option Value} {k : Nat} {fa a : Addr} {fd : FuncData} {x : Str} {sp : Sp} {s₁ : Shared} {vs : List Value} {ns : List Int}
    (kin : K.In s₁.heap) (hns : s₁.heap.Ns mainGlobals mg) (hb : s₁.heap.Ns builtinsNs mb) (hbb : ∀ x : Str, x ≠ "__name__" → mb x = bootBuiltins x) (nol : s₁.heap.NoLimit) (hg : s₁.gens = #[])
    (ha : s₁.heap.get? a = some { cls := .type "list", data := .seq vs.toArray }) (hi : IntsAre vs ns) (hl : ns.length ≤ sizeLine) (hr : Room k callerA)
    (F : ∀ base : Heap, K.In base → base.Ns mainGlobals mg → FnG P w K mg base k fa fd [x] sp) (hbd : ∀ (s : Shared) (u : Value), BindsTo s fd ⟨[u], []⟩ [(x, u)])
    (hsp : ∀ H : Hp, Only H → SqL K H a (ns.map V.int) → sp [.ref a] H (fun v _ => v = .bl true) fun _ _ _ => False) :
    codeAny (model P w) callerA (.call (.ref fa) ⟨[.ref a], []⟩) (fun r s' => r = .ok (.ret (.bool true)) ∧ OldK s₁.heap s'.heap ∧ s'.os = s₁.os ∧ AllBare s'.gens) s₁ := by
  have rv := vals_ints hi
  have lv := hi.length
  have core : ∀ H : Hp, Only H → SqL K H a (ns.map V.int) → HOk P w H s₁.heap → (∀ b, H b ≠ none → b = a) → (H a ≠ none → K.lookup a = none) →
      codeAny (model P w) callerA (.call (.ref fa) ⟨[.ref a], []⟩) (fun r s' => r = .ok (.ret (.bool true)) ∧ OldK s₁.heap s'.heap ∧ s'.os = s₁.os ∧ AllBare s'.gens) s₁ := by
    intro H hO hS hok hA hK
    have one : ∀ {b : Addr} {u : HO}, H b = some u → b = a := fun {b u} z => hA b (by rw [z]; exact fun n => by cases n)
    have free : ∀ {b : Addr} {o : Obj} {es : Array DictEntry} {ep : Nat}, s₁.heap.get? b = some o → o.data = .dict es ep → H b = none := by
      intro b o es ep z d
      cases q : H b with
      | none => rfl
      | some u =>
        have e := one q
        subst e
        rw [ha] at z
        cases z
        have d2 : Data.seq vs.toArray _ = Data.dict es ep := d
        cases d2
    have nsB : ∀ {b : Addr} {m : Str → Option Value}, s₁.heap.Ns b m → (hidT s₁.heap H).Ns b m := fun {b m} ⟨o, es, ep, z, d, r⟩ => ⟨o, es, ep, hidT_get z (free z d), d, r⟩
    have kB : K.In (hidT s₁.heap H) := fun b o z => by
      refine hidT_get (kin b o z) ?_
      cases q : H b with
      | none => rfl
      | some u =>
        have e := one q
        subst e
        rw [hK (by rw [q]; exact fun n => by cases n)] at z
        cases z
    have mB : Mod K mg (hidT s₁.heap H) := ⟨kB, nsB hns, ⟨mb, nsB hb, hbb⟩, let ⟨mc, z1, z2⟩ := nol; ⟨mc, nsB z1, z2⟩⟩
    have e0 : Env0 P w K mg (hidT s₁.heap H) callerA [] s₁ H :=
      ⟨rfl, mB, fun b o z => of_hidT z, Nat.le_of_eq (hidT_size _ _), trivial, fun b z => absurd (show b ∈ ([] : List Addr) from z) (by simp), hok, .of_eq hg⟩
    refine codeAny_mono ((F _ kB (nsB hns)).run callerA [] s₁ H ⟨[.ref a], []⟩ [.ref a] [.ref a] _ _ rfl hr e0 (hbd s₁ (.ref a)) (.cons rfl .nil) (hsp H hO hS)) fun r s' z => ?_
    cases r with
    | error e => exact False.elim z
    | ok fl =>
      cases fl with
      | next => exact False.elim z
      | brk => exact False.elim z
      | cont => exact False.elim z
      | ret u =>
        obtain ⟨v, H', os, bare, un, hok', r', q⟩ := z
        have q2 : v = .bl true := q
        subst q2
        obtain rfl : u = Value.bool true := r'
        refine ⟨rfl, OldK.of_keep fun b o z => ?_, os, bare⟩
        cases q : H b with
        | none => exact un.keep b o z q (fun n => absurd (show b ∈ ([] : List Addr) from n) (by simp)) (by simp)
        | some u =>
          rcases hO b with n | ⟨ob, xs, n⟩
          · rw [q] at n; cases n
          · obtain ⟨e1, _⟩ := hok b _ n
            obtain ⟨e2, _⟩ := hok' b _ (un.frzs b ob _ n)
            rw [z] at e1
            cases e1
            exact e2
  cases hk : K.lookup a with
  | some o =>
    have z := kin a o hk
    rw [ha] at z
    cases z
    exact core (fun _ => none) (fun _ => .inl rfl) (.inr ⟨_, vs.toArray, _, hk, rfl, rfl, rfl, by rw [List.size_toArray, lv]; exact hl, by simpa using rv⟩) (fun b u n => by have m : (none : Option HO) = some u := n; cases m)
      (fun b n => absurd rfl n) fun n => absurd rfl n
  | none =>
    refine core (fun b => if b = a then some (.frz { cls := .type "list", data := .seq vs.toArray } (.lst (ns.map V.int))) else none) (fun b => ?_) (.inl (.inr ⟨{ cls := .type "list", data := .seq vs.toArray }, if_pos rfl⟩)) (fun b u n => ?_) (fun b n => ?_) fun _ => hk
    · by_cases e : b = a
      · exact .inr ⟨_, _, if_pos e⟩
      · exact .inl (if_neg e)
    · by_cases e : b = a
      · have m := (if_pos e).symm.trans n
        cases m
        subst e
        exact ⟨ha, by rw [List.length_map]; exact hl, vs, _, rv, ha⟩
      · have m := (if_neg e).symm.trans n
        cases m
    · by_cases e : b = a
      · exact e
      · exact absurd (if_neg e) n
theorem walkG {l : PySem.W.OpenLaw} {n k : Nat} {q : Program} {loose : List Str} {XP : (Str → Option Value) → Heap → Prop} {YP : World → Heap → Prop} {d : DefRec} {x : Str}
    (hn : l.most = some n) (hz : n ≤ sizeLine) (hd : d.params.defaults = []) (hr : Room k callerA)
    (F : ∀ (w : World) (mg : Str → Option Value) (fa : Addr) (h : Heap), YP w h → h.Ns mainGlobals mg → mg d.name = some (.ref fa) → ∃ (K : PySem.W.Frag) (fd : FuncData) (sp : Sp), K.In h ∧ (∀ (s : Shared) (u : Value), BindsTo s fd ⟨[u], []⟩ [(x, u)]) ∧
      (∀ (H : Hp) (a : Addr) (ns : List Int), ns.length ≤ n → Only H → SqL K H a (ns.map V.int) → sp [.ref a] H (fun v _ => v = .bl true) fun _ _ _ => False) ∧ ∀ base : Heap, K.In base → base.Ns mainGlobals mg → FnG l.prog w K mg base k fa fd [x] sp) :
    PySem.W.WalkO q loose XP YP l.row.toRowW d [] (fun f vs => PySem.call f vs) := by
  refine Att.attach_call hn hd fun w s₀ s₁ mg mb fa o pm cd doc a vs ns G Y _ _ _ hm hob hin hle hge => ?_
  obtain ⟨K, fd, sp, kin, hb, hs, hF⟩ := F w mg fa _ Y G.T.g hm
  exact lawG_call kin G.T.g G.T.b G.T.builtins G.T.nolimit hge hob hin (Nat.le_trans hle hz) hr hF hb fun H hO hS => hs H a ns hle hO hS
end Sw
namespace Sw
open PySem PySem.Spec PyProof.Rows L2
/-! ### repr -/
mutual
theorem nodict {K : PySem.W.Frag} {H : Hp} : ∀ (d : PyData) (v : V), Dp K H v d → d.hasDict = false
  | .none, _, _ => by simp only [PyData.hasDict]
  | .bool _, _, _ => by simp only [PyData.hasDict]
  | .int _, _, _ => by simp only [PyData.hasDict]
  | .str _, _, _ => by simp only [PyData.hasDict]
  | .list ds, _, h => by
    cases h with
    | lst _ ha => simpa only [PyData.hasDict] using nodictAll ds _ ha
  | .tuple ds, _, h => by
    cases h with
    | tup _ ha => simpa only [PyData.hasDict] using nodictAll ds _ ha
  | .dict _, _, h => by cases h
theorem nodictAll {K : PySem.W.Frag} {H : Hp} : ∀ (ds : List PyData) (vs : List V), DpAll K H vs ds → PyData.hasDictAll ds = false
  | [], _, _ => by simp only [PyData.hasDictAll]
  | d :: ds, _, h => by
    cases h with
    | cons h1 h2 =>
      simp only [PyData.hasDictAll, nodict d _ h1, nodictAll ds _ h2, Bool.or_self]
end
section
variable {X : Cx}
theorem call_reprD (hG : X.A.guards = some []) (hu : X.A.units + 64 < cLine) : CallR X (.builtin "repr") (fun xs H Q => ∃ x d, xs = [x] ∧ Dp X.K H x d ∧ d.showable = true ∧ d.depth ≤ 60 ∧ d.shown.length ≤ sizeLine ∧ Q (.str d.shown) H) := by
  intro pins s σ H xs us Q I r h
  obtain ⟨x, d, rfl, hd, hs, hdp, hz, q⟩ := h
  cases r with
  | cons r1 rt =>
    cases rt
    have nd := nodict d x hd
    cases d with
    | none => cases hd; cases r1; exact P.repr_of_none ⟨.str _, H, I.tok _, ⟨_, rfl⟩, q⟩
    | bool b => cases hd; cases r1; exact P.repr_of_bool ⟨.str _, H, I.tok _, ⟨_, rfl⟩, q⟩
    | int i =>
      cases hd
      obtain ⟨t, rfl⟩ := r1
      exact P.repr_of_int (by simpa [PyData.showable] using hs) ⟨.str _, H, I.tok _, ⟨_, rfl⟩, q⟩
    | str z =>
      cases hd
      obtain ⟨t, rfl⟩ := r1
      exact P.repr_of_str ⟨.str _, H, I.tok _, ⟨_, rfl⟩, q⟩ hz
    | dict _ => cases hd
    | list ds =>
      have hd0 := hd
      cases hd0 with
      | lst h1 h2 =>
        obtain ⟨as, rd⟩ := Dp.reads I _ _ _ hd r1
        cases r1
        exact repr_of_reads' rd hs (fun z => by rw [nd] at z; cases z) hG (by omega) (fun _ _ z => z) (fun h' u tk k => ⟨.str _, H, I.kept (t' := tk) k, ⟨_, rfl⟩, q⟩) hz
    | tuple ds =>
      have hd0 := hd
      cases hd0 with
      | tup h1 h2 =>
        obtain ⟨as, rd⟩ := Dp.reads I _ _ _ hd r1
        cases r1
        exact repr_of_reads' rd hs (fun z => by rw [nd] at z; cases z) hG (by omega) (fun _ _ z => z) (fun h' u tk k => ⟨.str _, H, I.kept (t' := tk) k, ⟨_, rfl⟩, q⟩) hz
/-- repr({}) -/
theorem call_repr0 (hG : X.A.guards = some []) (hu : X.A.units + 64 < cLine) : CallR X (.builtin "repr") (fun xs H Q => ∃ a, xs = [.ref a] ∧ H a = some (.dK []) ∧ Q (.str (PyData.shown (.dict []))) H) := by
  intro pins s σ H xs us Q I r h
  obtain ⟨a, rfl, ha, q⟩ := h
  cases r with
  | cons r1 rt =>
    cases rt
    cases r1
    obtain ⟨_, hsm, vs, kv, o, es, ep, ho, hex, hd, _, he, _⟩ := I.hok a _ ha
    cases kv
    have he' : es.toList = [] := by
      generalize es.toList = l at he ⊢
      cases he
      rfl
    have rd : Reads s.heap (.ref a) (.dict []) (a :: [] ++ []) := by
      refine Reads.dict (kvs := []) ho hex.1 hd ?_ ?_
      · rw [he']; exact .nil
      · rw [he']; exact .nil
    refine repr_of_reads' rd (by decide) (fun _ hm => ?_) hG (by have z : PyData.depth (.dict []) = 1 := (by decide); rw [z]; omega) (fun _ _ z => z) (fun h' u tk k => ⟨.str _, H, I.kept (t' := tk) k, ⟨_, rfl⟩, q⟩) (by decide)
    have : sysModules = a := by simpa using hm
    rw [this] at hsm
    simp at hsm
end
/-! ### the least, the greatest of texts -/
section
variable {X : Cx}
theorem holds_vals {P : Program} {w : World} {h : Heap} : ∀ {xs : List Str} {us : List Value}, Vals (xs.map V.str) us → PySem.W.HoldAll h us xs
  | [], _, .nil => PySem.W.HoldAll.nil
  | x :: xs, _, .cons r t => by
    obtain ⟨k, rfl⟩ := r
    exact PySem.W.HoldAll.cons (PySem.W.holds_str x k) (holds_vals (P := P) (w := w) t)
theorem cr_minS (hc : X.calm = true) (hu : X.A.units + 64 < cLine) : CallR X (.builtin "min") (fun vs H Q => ∃ (a : Addr) (x : Str) (xs : List Str), vs = [.ref a] ∧ SqT X.K H a ((x :: xs).map V.str) ∧ Q (.str (PySem.W.minOf x xs)) H) := by
  intro pins s σ H vs us Q I r h
  obtain ⟨a, x, xs, rfl, hx, q⟩ := h
  cases r with
  | cons r1 rt =>
    cases rt
    cases r1
    obtain ⟨its, rv, ⟨o, ho, hcl, n, hd⟩, _⟩ := I.tuple hx
    have hd0 : PySem.W.Datum.depth Str = 0 := rfl
    refine PySem.W.min_tuple_datum (vs := its.toArray) (I.ok.hd hc) ⟨o, ho, hcl, n, hd⟩ (holds_vals (P := X.prog) (w := X.w) (by simpa using rv)) (by rw [hd0]; omega) fun i v h' tk hi hh k => ?_
    obtain ⟨t, rfl⟩ := PySem.W.str_of_holds hh
    exact ⟨.str _, H, I.kept (t' := tk) k, ⟨_, rfl⟩, q⟩
theorem cr_maxS (hc : X.calm = true) (hu : X.A.units + 64 < cLine) : CallR X (.builtin "max") (fun vs H Q => ∃ (a : Addr) (x : Str) (xs : List Str), vs = [.ref a] ∧ SqT X.K H a ((x :: xs).map V.str) ∧ Q (.str (PySem.W.maxOf x xs)) H) := by
  intro pins s σ H vs us Q I r h
  obtain ⟨a, x, xs, rfl, hx, q⟩ := h
  cases r with
  | cons r1 rt =>
    cases rt
    cases r1
    obtain ⟨its, rv, ⟨o, ho, hcl, n, hd⟩, _⟩ := I.tuple hx
    have hd0 : PySem.W.Datum.depth Str = 0 := rfl
    refine PySem.W.max_tuple_datum (vs := its.toArray) (I.ok.hd hc) ⟨o, ho, hcl, n, hd⟩ (holds_vals (P := X.prog) (w := X.w) (by simpa using rv)) (by rw [hd0]; omega) fun i v h' tk hi hh k => ?_
    obtain ⟨t, rfl⟩ := PySem.W.str_of_holds hh
    exact ⟨.str _, H, I.kept (t' := tk) k, ⟨_, rfl⟩, q⟩
end
/-! ### list(text), text * int -/
section
variable {X : Cx}
theorem signs_vals : ∀ (l : List Nat) (us : List Value), us.length = l.length → (∀ (i : Nat) (c : Nat), l[i]? = some c → ∃ t, us[i]? = some (Value.str ⟨#[c]⟩ t)) → Vals (l.map fun c => V.str ⟨#[c]⟩) us
  | [], [], _, _ => .nil
  | [], _ :: _, h, _ => by simp at h
  | _ :: _, [], h, _ => by simp at h
  | c :: l, u :: us, h, e => by
    obtain ⟨t, et⟩ := e 0 c rfl
    have : u = Value.str ⟨#[c]⟩ t := by simpa using et
    exact .cons ⟨t, this⟩ (signs_vals l us (by simpa using h) fun i c' hc => by simpa using e (i + 1) c' (by simpa using hc))
theorem call_listS (hc : X.calm = true) : CallR X (.type "list") (fun xs H Q => ∃ z : Str, xs = [.str z] ∧ z.cps.size ≤ sizeLine ∧ ∀ p, H p = none → Q (.ref p) (upd H p (.lst (z.cps.toList.map fun c => V.str ⟨#[c]⟩)))) := by
  intro pins s σ H xs us Q I r h
  obtain ⟨z, rfl, hz, q⟩ := h
  cases r with
  | cons r1 rt =>
    cases rt
    obtain ⟨t, rfl⟩ := r1
    refine call_list_str (I.ok.hd hc) z t (fun h' tk acc c k ho hi => ?_) hz
    obtain ⟨hi1, hi2⟩ := hi
    refine ⟨.ref s.heap.objs.size, _, I.laid (t' := tk) (o := .lst (z.cps.toList.map fun c => V.str ⟨#[c]⟩)) k (Nat.le_refl _) ⟨by rw [List.length_map, Array.length_toList]; exact hz, acc.toList, c, ?_, by simpa using ho⟩, rfl, q _ (I.hok.fresh (Nat.le_refl _))⟩
    refine signs_vals _ _ (by rw [Array.length_toList, Array.length_toList]; exact hi1) fun i c' hc' => ?_
    have hlt : i < acc.size := by
      rw [hi1]
      rw [Array.getElem?_toList] at hc'
      exact (Array.getElem?_eq_some_iff.mp hc').1
    obtain ⟨c2, u, e1, e2⟩ := hi2 i acc[i] (Array.getElem?_eq_some_iff.mpr ⟨hlt, rfl⟩)
    rw [Array.getElem?_toList] at hc'
    rw [e1] at hc'
    have ec : c2 = c' := Option.some.inj hc'
    subst ec
    exact ⟨u, by rw [Array.getElem?_toList, Array.getElem?_eq_some_iff.mpr ⟨hlt, rfl⟩, e2]⟩
end
end Sw
namespace Sw
open PySem PySem.Spec PyProof.Rows L2
/-! ### text * int -/
theorem foldl_cat (a : Array Nat) : ∀ (k : Nat) (b : Array Nat), ((List.replicate k a).foldl (· ++ ·) b).size = b.size + k * a.size
  | 0, b => by simp
  | k + 1, b => by
    rw [List.replicate_succ, List.foldl_cons, foldl_cat a k (b ++ a), Array.size_append, Nat.succ_mul]
    omega
section
variable {X : Cx}
end
/-! ### set of a list of texts -/
/-- each once, as they are met -/
def once (xs : List Str) : List Str := xs.foldl (fun a x => if a.any (· == x) then a else a ++ [x]) []
theorem once_snoc (xs : List Str) (x : Str) : once (xs ++ [x]) = if (once xs).any (· == x) then once xs else once xs ++ [x] := by
  unfold once; rw [List.foldl_append]; rfl
theorem once_le : ∀ (n : Nat) (xs : List Str), xs.length = n → (once xs).length ≤ n
  | 0, xs, h => by rw [List.eq_nil_of_length_eq_zero h]; exact Nat.le_refl _
  | n + 1, xs, h => by
    obtain ⟨ys, y, rfl⟩ : ∃ ys y, xs = ys ++ [y] := ⟨xs.dropLast, xs.getLast (by intro e; rw [e] at h; cases h), (List.dropLast_concat_getLast _).symm⟩
    rw [List.length_append, List.length_singleton] at h
    have ih := once_le n ys (by omega)
    rw [once_snoc]
    split
    · omega
    · rw [List.length_append, List.length_singleton]; omega
section
variable {prog : Program} {w : World} {A : Around} {R : Result → Shared → Prop} {J : Addr} {fp wr : List Addr} {G : Array GenState → Array GenState → Prop} {n : Nat} {P : Nat → Value → Prop} {St : Nat → Shared → Prop}
theorem take_snoc {xs : List Str} {i : Nat} (h : i < xs.length) : xs.take (i + 1) = xs.take i ++ [xs.getD i Str.empty] := by
  rw [List.take_succ, List.getD_eq_getElem?_getD, List.getElem?_eq_getElem h]; rfl
theorem setLoop (W : WalksS prog w A.in1 J fp wr G n P St) (S : Addr) (hS0 : S ∉ fp) (xs : List Str) (hxn : xs.length = n) (hn : n + 1 < scanBound) (hv : ∀ i v, P i v → ∃ t, v = .str (xs.getD i Str.empty) t) :
    ∀ (k i : Nat) (s : Shared), n - i = k → i ≤ n → St i s → s.heap.SetOf (strKind prog w) S (fun y => (once (xs.take i)).any (· == y)) (once (xs.take i)).length →
      (∀ s', Moved (S :: wr) G s s' → s'.heap.SetOf (strKind prog w) S (fun y => (once xs).any (· == y)) (once xs).length → R (.ok (.ret .none)) s') →
      codeAny (model prog w) A (.builtin "set.update.loop" ⟨[.ref S, .ref J], []⟩) R s := by
  have notW : S ∉ wr := fun z => hS0 (W.sub _ z)
  have more : ∀ b ∈ wr, b ∈ S :: wr := fun b z => List.mem_cons_of_mem _ z
  intro k
  induction k with
  | zero =>
    intro i s hk hi hst hS hR
    obtain rfl : i = n := by omega
    refine codeAny_builtin (b := Builtin.«set.update.loop») PyProof.Rows.F.entry_set_update_loop ?_
    rw [show A.under (.builtin "set.update.loop" ⟨[.ref S, .ref J], []⟩) = A.in1 from Around.under_plainId PyProof.Rows.F.plain_set_update_loop _]
    show wpAny (model prog w) A.in1 (pyNext (.ref J) >>= _) _ _ s
    refine wpAny_bind (W.done s _ _ hst fun s2 m => ?_)
    show wpAny (model prog w) A.in1 (ret Value.none) _ _ s2
    refine wpAny_pure (hR s2 (m.mono more) ?_)
    rw [List.take_of_length_le (by omega)] at hS
    obtain ⟨o, es, ep, t, ho, q⟩ := hS
    exact ⟨o, es, ep, t, m.heap S _ notW ho, q⟩
  | succ k ih =>
    intro i s hk hi hst hS hR
    have lt : i < n := by omega
    refine codeAny_builtin (b := Builtin.«set.update.loop») PyProof.Rows.F.entry_set_update_loop ?_
    rw [show A.under (.builtin "set.update.loop" ⟨[.ref S, .ref J], []⟩) = A.in1 from Around.under_plainId PyProof.Rows.F.plain_set_update_loop _]
    show wpAny (model prog w) A.in1 (pyNext (.ref J) >>= _) _ _ s
    refine wpAny_bind (W.item i s _ _ lt hst fun v s2 hP hst2 m => ?_)
    obtain ⟨t, rfl⟩ := hv i v hP
    have hS2 : s2.heap.SetOf (strKind prog w) S (fun y => (once (xs.take i)).any (· == y)) (once (xs.take i)).length := by
      obtain ⟨o, es, ep, tb, ho, q⟩ := hS
      exact ⟨o, es, ep, tb, m.heap S _ notW ho, q⟩
    show wpAny (model prog w) A.in1 (holding [Value.str (xs.getD i Str.empty) t] (setAdd S (.str (xs.getD i Str.empty) t)) >>= _) _ _ s2
    refine wpAny_bind (wpAny_holding ?_)
    unfold setAdd
    refine wpAny_holding (wpAny_bind ((strKind prog w).pyHash (k := xs.getD i Str.empty) (strKind_is _ _ _ _) ?_))
    have room : (once (xs.take i)).length + 1 < scanBound := by
      have := once_le i (xs.take i) (by rw [List.length_take]; omega)
      omega
    refine wpAny_setAddHashed_of (knd := strKind prog w) (s := { s2 with toks := s2.toks + 1 }) (strKind_is _ _ _ _) rfl hS2 room fun h' sb hN => ?_
    have hNi : h'.SetOf (strKind prog w) S (fun y => (once (xs.take (i + 1))).any (· == y)) (once (xs.take (i + 1))).length := by
      refine SetOf_congr hN (fun y => ?_) ?_
      · rw [take_snoc (by omega), once_snoc]
        by_cases e : (once (xs.take i)).any (· == xs.getD i Str.empty) = true
        · rw [if_pos e]
          by_cases ey : y = xs.getD i Str.empty
          · subst ey; rw [e]; simp
          · rw [decide_eq_false ey, Bool.or_false]
        · rw [if_neg e, List.any_append]
          by_cases ey : y = xs.getD i Str.empty
          · subst ey; simp
          · have ne : (xs.getD i Str.empty == y) = false := by simpa [beq_iff_eq] using fun z : xs.getD i Str.empty = y => ey z.symm
            simp only [List.any_cons, List.any_nil, ne, Bool.or_false, decide_eq_false ey]
      · rw [take_snoc (by omega), once_snoc]
        split
        · rfl
        · rw [List.length_append]; rfl
    refine wpAny_pure ⟨plainId_quiet PyProof.Rows.F.plain_set_update_loop _, ih (i + 1) _ (by omega) lt (W.frame _ s2 _ _ hst2 (Nat.le_succ _) fun b hb o z => ?_) hNi fun s3 m3 hS3 => ?_⟩
    · rw [sb.2 b (fun z2 : b = S => hS0 (by rw [← z2]; exact hb))]; exact z
    · refine hR s3 (Moved.trans W.gtrans ((m.mono more).then_heap (Nat.le_succ _) fun b o hb z => ?_) m3) hS3
      rw [sb.2 b (fun z2 : b = S => hb (by rw [z2]; exact List.mem_cons_self))]; exact z
end
/-- a set as it is made -/
abbrev bare (led : Bool) : Obj := { cls := .type "set", dict := none, data := .set #[] 0 (.fresh 0 0 led) }
section
variable {w : World} {A : Around} {s : Shared} {prog : Program} {E : Value → Shared → Prop}
theorem set_of_texts {l : Addr} {items : Array Value} {xs : List Str} {Q : Value → Shared → Prop}
    (hh : A.handled = none) (hl : s.heap.IsList l items) (hi : StrsAre items.toList xs) (hn : items.size + 1 < scanBound)
    (h : ∀ (h' : Heap) (tk : Nat), h'.SetOf (strKind prog w) s.heap.objs.size (fun y => (once xs).any (· == y)) (once xs).length →
      (∀ b o, b < s.heap.objs.size → s.heap.get? b = some o → h'.get? b = some o) → Q (.ref s.heap.objs.size) { s with heap := h', toks := tk }) :
    wpAny (model prog w) A (call (.type "set") [.ref l]) Q E s := by
  have hxs : xs.length = items.size := by rw [← hi.length, Array.length_toList]
  obtain ⟨c, tl, mr⟩ := PySem.F.called_set.mro
  have mk0 := PySem.F.called_set.made
  have sb0 := PySem.F.called_set.sub
  refine wpAny_call (codeAny_of_tree (show wpAny _ _ (callAny (.type "set") _) _ _ _ from ?_))
  refine wpAny_pure ⟨Code.quiet_builtin _ (by decide +kernel), codeAny_builtin PySem.F.entry_type_call ?_⟩
  rw [Around.under_plain (weight_type_call_type "set" [.ref l] []) rfl]
  have h1 := PySem.F.called_set.notType
  have h2 := PySem.F.called_set.canCreate
  have tc0 := PySem.F.typeCall_set_1 (.ref l)
  repeat (any_goals (first | assumption | wp_step))
  refine codeAny_mono (code_set_new_1 (.ref l) (E := E) (Q₁ := fun ob s₁ => ∃ led : Bool, ob = .ref s.heap.objs.size ∧ s₁ = { s with heap := s.heap.push (bare led) }) fun led => ⟨led, rfl, rfl⟩) fun r s₁ hr => ?_
  cases r with
  | error e => exact hr
  | ok fl =>
    cases fl with
    | ret ob =>
      obtain ⟨led, rfl, rfl⟩ := hr
      have zS : (s.heap.push (bare led)).get? s.heap.objs.size = some (bare led) := Heap.get?_push_size _ rfl
      have zT : Shared.TypeIs { s with heap := s.heap.push (bare led) } (.ref s.heap.objs.size) "set" := ⟨_, zS, rfl⟩
      have ini := PySem.F.called_set.init.lookup
      have bnd := PySem.F.called_set.init.bind (.ref s.heap.objs.size)
      repeat (any_goals (first | assumption | wp_step))
      refine codeAny_mono (codeAny_call_builtin (R := wants (fun r t2 => r = .none ∧ ∃ h' tk, t2 = { s with heap := h', toks := tk } ∧ h'.SetOf (strKind prog w) s.heap.objs.size (fun y => (once xs).any (· == y)) (once xs).length ∧
          (∀ b o, b < s.heap.objs.size → s.heap.get? b = some o → h'.get? b = some o)) E) PySem.F.called_set.init.plain PySem.F.entry_set_init (check_set_init_1 zT ?_)) fun r2 t2 z₂ => ?_
      · obtain ⟨obL, atL, clL, nL, dtL⟩ := hl
        obtain ⟨k1, k2, k3, k4⟩ := obL
        simp only at clL dtL
        subst clL; subst dtL
        have atL2 : (s.heap.push (bare led)).get? l = some { cls := .type "list", dict := k2, data := .seq items nL, slots := k4 } := Heap.get?_push_of_some _ atL
        have sub1 := PySem.F.sub_list_set
        have sub2 := PySem.F.sub_list_frozenset
        have dne : (Value.type "list" == Value.type "dict") = false := by decide
        have lst1 : (s.heap.push (bare led)).IsList l items := ⟨_, atL2, rfl, nL, rfl⟩
        unfold Builtin.«set.__init__» noKeywords Builtin.Frozenset.updateFrom
        generalize hide : pyIter = IT
        wp_walk
        subst hide
        refine wpAny_pyIter_list lst1 ?_
        refine wpAny_bind (wpAny_runValue ?_)
        have ltS : l < s.heap.objs.size := Heap.lt_size atL
        have calm3 : A.in1.in1.in1.handled = none := by simp [hh]
        have apart : l ≠ (s.heap.push (bare led)).objs.size := by
          rw [Heap.size_push]; exact Nat.ne_of_lt (Nat.lt_succ_of_lt ltS)
        have nofp : s.heap.objs.size ∉ [(s.heap.push (bare led)).objs.size, l] := by
          rw [Heap.size_push]; simp only [List.mem_cons, List.mem_singleton, List.not_mem_nil, or_false, not_or]
          exact ⟨Nat.ne_of_lt (Nat.lt_succ_self _), Nat.ne_of_gt ltS⟩
        have told : ∀ (i : Nat) (v : Value), items[i]? = some v → ∃ t, v = .str (xs.getD i Str.empty) t := fun i v hv => SS.strs_at hi i v (by rw [Array.getElem?_toList]; exact hv)
        refine setLoop ((Walks.list calm3 _ l apart items).toS) s.heap.objs.size nofp xs hxs hn told (items.size - 0) 0 _ (by omega) (Nat.zero_le _)
          ⟨⟨_, Heap.get?_push_size _ rfl, rfl, rfl⟩, (lst1.push _)⟩ ?c1 ?c2
        case c1 =>
          have atS : ((s.heap.push (bare led)).push { cls := .type "list_iterator", data := .fields #[.ref l, .int 0 0] }).get? s.heap.objs.size
              = some (bare led) := Heap.get?_push_of_some _ zS
          exact SetOf_congr ((setObjOf_fresh (knd := strKind prog w) led).setOf atS (by unfold scanBound; omega)) (fun _ => rfl) rfl
        case c2 =>
          intro s' mv zS2
          obtain ⟨h', g', d', tk', os'⟩ := s'
          have qg : g' = s.gens := mv.gens
          have qd : d' = s.drawn := mv.drawn
          have qo : os' = s.os := mv.os
          subst qg; subst qd; subst qo
          show wpAny _ _ _ _ _ _
          refine wpAny_pure ?_
          show wpAny _ _ (ret Value.none) _ _ _
          refine wpAny_pure ⟨rfl, h', tk', rfl, zS2, fun b o hb e => ?_⟩
          have ne1 : b ≠ s.heap.objs.size := Nat.ne_of_lt hb
          have ne2 : b ≠ (s.heap.push (bare led)).objs.size := by
            rw [Heap.size_push]; exact Nat.ne_of_lt (Nat.lt_succ_of_lt hb)
          exact mv.heap b o (by simp only [List.mem_cons, List.mem_singleton, List.not_mem_nil, or_false, not_or]; exact ⟨ne1, ne2⟩) (Heap.get?_push_of_some _ (Heap.get?_push_of_some _ e))
      · cases r2 with
        | error e => exact z₂
        | ok fl₂ =>
          cases fl₂ with
          | ret r =>
            obtain ⟨rfl, h', tk, rfl, zS2, kk⟩ := z₂
            repeat (any_goals (first | assumption | wp_step))
            exact h _ _ zS2 kk
          | _ => exact z₂.elim
    | _ => exact hr.elim
end
end Sw
namespace Sw
open PySem PySem.Spec PyProof.Rows L2
/-! ### set(list of texts), len of it -/
/-- a set of n texts stands at a -/
def TxO (P : Program) (w : World) (a : Addr) (n : Nat) : HO := .ext fun h => ∃ S, h.SetOf (strKind P w) a S n
section
variable {X : Cx}
theorem strs_vals : ∀ {xs : List Str} {us : List Value}, Vals (xs.map V.str) us → StrsAre us xs
  | [], _, .nil => .nil
  | x :: xs, _, .cons r t => by
    obtain ⟨k, rfl⟩ := r
    exact .cons x k (strs_vals t)
theorem call_setTx (hc : X.calm = true) : CallR X (.type "set") (fun vs H Q => ∃ (a : Addr) (xs : List Str), vs = [.ref a] ∧ SqL X.K H a (xs.map V.str) ∧ xs.length ≤ 1000 ∧ ∀ p, H p = none → Q (.ref p) (upd H p (TxO X.prog X.w p (once xs).length))) := by
  intro pins s σ H vs us Q I r h
  obtain ⟨a, xs, rfl, hx, hz, q⟩ := h
  cases r with
  | cons r1 rt =>
    cases rt
    cases r1
    obtain ⟨its, rv, hl, _⟩ := I.list hx
    have hlen := rv.length
    rw [List.length_map] at hlen
    refine set_of_texts (I.ok.hd hc) hl.isList (by simpa using strs_vals rv) (by rw [List.size_toArray, ← hlen]; unfold scanBound; omega) fun h' tk hS k => ?_
    obtain ⟨o, es, ep, t, ho, rest⟩ := id hS
    refine ⟨.ref s.heap.objs.size, _, I.laid (t' := tk) (o := TxO X.prog X.w s.heap.objs.size (once xs).length) (fun b ob e => k b ob (Heap.lt_size e) e) (Nat.le_refl _) ?_, rfl, q _ (I.hok.fresh (Nat.le_refl _))⟩
    exact ⟨⟨_, hS⟩, ⟨o, ho⟩, fun h1 h2 ⟨S, o1, e1, e2, t1, z, z2⟩ kk => ⟨S, o1, e1, e2, t1, kk _ z, z2⟩⟩
theorem call_lenTx : CallR X (.builtin "len") (fun vs H Q => ∃ (a : Addr) (n : Nat), vs = [.ref a] ∧ H a = some (TxO X.prog X.w a n) ∧ Q (.int n) H) := by
  intro pins s σ H vs us Q I r h
  obtain ⟨a, n, rfl, ha, q⟩ := h
  cases r with
  | cons r1 rt =>
    cases rt
    cases r1
    obtain ⟨⟨S, o, es, ep, t, ho, hex, hd, _, _, hb, hf, hn⟩, _⟩ := I.hok a _ ha
    exact call_len_set ho hex hd hf (by unfold scanBound at hb; omega) ⟨.int n, H, I.tok _, ⟨_, by rw [hn]⟩, q⟩
end
/-! ### (a, b)[::-1] -/
section
variable {prog : Program} {w : World} {A : Around} {E : Value → Shared → Prop} {s : Shared}
theorem applied_back {sl : Addr} {vk : Value} {Q : Int × Int × Nat → Shared → Prop} (hs : s.heap.IsSliceOf sl .none .none vk) (hk : IsPart vk (some (-1)))
    (h : Q (1, -1, 2) s) : wpAny (model prog w) A (Builtin.Slice.sliceApplied (.ref sl) (pure (2 : Int))) Q E s := by
  obtain ⟨os, hos, hcs, hds⟩ := id hs
  unfold Builtin.Slice.sliceApplied Builtin.Slice.sliceFields
  refine wpAny_bind (wpAny_bind (wpAny_field hos hds (x := .none) rfl (wpAny_bind (wpAny_field hos hds (x := .none) rfl (wpAny_bind (wpAny_field hos hds (x := vk) rfl (wpAny_pure ?_)))))))
  refine wpAny_bind (HT.slicePart_ hk ?_)
  show wpAny (model prog w) _ (if ((-1 : Int) == 0) = true then _ else _) _ _ s
  rw [if_neg (show ¬ ((-1 : Int) == 0) = true by decide)]
  refine wpAny_bind (HT.slicePart_ .none (wpAny_bind (HT.slicePart_ .none (wpAny_bind (wpAny_pure ?_)))))
  exact wpAny_pure h
theorem tuple_back {t sl : Addr} {u v : Value} {vk : Value} {Q : Value → Shared → Prop} (ht : IsTup s.heap t #[u, v]) (hs : s.heap.IsSliceOf sl .none .none vk) (hk : IsPart vk (some (-1)))
    (h : Q (.ref s.heap.objs.size) { s with heap := s.heap.push { cls := .type "tuple", data := .seq #[v, u] } }) : wpAny (model prog w) A (getItem (.ref t) (.ref sl)) Q E s := by
  obtain ⟨os, hos, hcs, hds⟩ := id hs
  have hTs : s.TypeIs (.ref sl) "slice" := ⟨os, hos, hcs⟩
  unfold getItem
  try with_reducible refine wpAny_holding ?_
  first | refine wpAny_bind (wpAny_pure ?_) | skip
  refine wpAny_bind (wpAny_sequenceKey ht.typeIs (by decide) ?_)
  refine wpAny_bind (wpAny_callSpecial?_slot (name := Str.ofString "__getitem__") ht.typeIs PyProof.Rows.slot_tuple_getitem
    (wpAny_call_entry PyProof.Rows.slot_tuple_getitem ht.typeIs entry_tuple_getitem ?_ (args_tuple_getitem _ _)))
  show wpAny (model prog w) _ (Builtin.Tuple.tupleItemsOf (.ref t) >>= _) _ _ s
  refine wpAny_bind (tupleItemsOf_ ht ?_)
  refine wpAny_bind (wpAny_typeOf hTs ?_)
  rw [if_pos (show (Value.type "slice" == Value.type "slice") = true from by decide)]
  refine wpAny_bind (applied_back hs hk ?_)
  show wpAny (model prog w) _ (if ((1 : Int) == 0 && (-1 : Int) == 1 && (2 : Nat) == 2) = true then _ else _) _ _ s
  rw [if_neg (show ¬ ((1 : Int) == 0 && (-1 : Int) == 1 && (2 : Nat) == 2) = true by decide)]
  have e : ((List.range 2).filterMap fun (k : Nat) => (#[u, v] : Array Value)[((1 : Int) + (k : Int) * (-1)).toNat]?).toArray = #[v, u] := rfl
  show wpAny (model prog w) _ (_ >>= _) _ _ s
  have hz : sizeOk (.seq #[v, u]) := by show 2 ≤ sizeLine; decide
  first
    | exact wpAny_bind (m := Builtin.Tuple.tupleExact _) (wpAny_newObj_type (wpAny_pure ⟨_, rfl, wpAny_pure h⟩) hz)
    | exact wpAny_bind (m := Builtin.Tuple.tupleExact _) (wpAny_newObj_type (wpAny_bind (wpAny_pure (wpAny_pure ⟨_, rfl, wpAny_pure h⟩))) hz)
    | exact wpAny_bind (wpAny_bind (m := Builtin.Tuple.tupleExact _) (wpAny_newObj_type (wpAny_pure (wpAny_pure ⟨_, rfl, wpAny_pure h⟩)) hz))
    | exact wpAny_bind (wpAny_bind (m := Builtin.Tuple.tupleExact _) (wpAny_newObj_type (wpAny_pure ⟨_, rfl, wpAny_pure h⟩) hz))
end
section
variable {X : Cx}
/-- (x, y)[::-1] -/
theorem pe_back {e : Expr} {te : TE} {k : Nat} {p1 p2 p3 pos : Pos} (he : PE X e te) : PE X (.Subscript e (.Slice none none (some (.UnaryOp .USub (.Constant (.int 1) k p1) p2)) p3) pos)
    (fun σ H Q => te σ H fun x H1 => ∃ a u v, x = .ref a ∧ SqT X.K H1 a [u, v] ∧ ∀ p, H1 p = none → Q (.ref p) (upd H1 p (.tup [v, u]))) := by
  refine ⟨fun pins s σ H Q I h => Subscript_ (thn (he.run pins s σ H _ I h) fun z s1 ⟨x, H1, J, r1, a, u, v, ex, hx, q⟩ => ?_)⟩
  subst ex
  cases r1
  have hst : PO X (some (.UnaryOp .USub (.Constant (.int 1) k p1) p2)) (tPart (tUn (rU fun i => .int (-i)) (tC (.int 1)))) := po_some (pe_un un_neg pe_int)
  refine wpAny_Slice (thn (po_none.run pins s1 σ H1 (fun o G => o = none ∧ G = H1) J ⟨rfl, rfl⟩) fun vl s2 ⟨l, G2, J2, pl, el, e2⟩ => ?_)
  subst el e2
  refine thn (po_none.run pins s2 σ G2 (fun o G => o = none ∧ G = G2) J2 ⟨rfl, rfl⟩) fun vu s3 ⟨m, G3, J3, pu, eu, e3⟩ => ?_
  subst eu e3
  refine thn (hst.run pins s3 σ G3 (fun o G => o = some (-1) ∧ G = G3) J3 ⟨1, rfl, -1, rfl, rfl, rfl⟩) fun vs s4 ⟨o, G4, J4, ps, eo, e4⟩ => ?_
  subst eo e4
  have J5 : Inv X pins σ G4 { s4 with heap := s4.heap.push { cls := .type "slice", data := .fields #[vl, vu, vs] } } := J4.kept (t' := s4.toks) fun b ob q => Heap.get?_push_of_some _ q
  obtain ⟨its, r, ht, hz⟩ := J5.tuple hx
  cases pl
  cases pu
  cases r with
  | cons ru r =>
    cases r with
    | cons rv' r =>
      cases r
      refine tail_any (ops := [.ref a, .ref s4.heap.objs.size]) ht.typeIs PyProof.Rows.slot_tuple_getitem.lookup ?_ (by with_unfolding_all rfl)
      refine tuple_back ht (Heap.IsSliceOf.new _ .none .none vs) ps ?_
      refine ⟨.ref _, _, J5.laid (t' := s4.toks) (o := .tup [v, u]) (fun b ob q => Heap.get?_push_of_some _ q) (Nat.le_refl _) ?_, rfl, q _ (J5.hok.fresh (Nat.le_refl _))⟩
      exact ⟨by show 2 ≤ sizeLine; decide, _, .cons rv' (.cons ru .nil), IsTup.new _ _⟩
end
/-! ### calls: all by keywords; a def with a star -/
section
variable {X : Cx} {CX : CXT} {k : Nat} {f : Addr} {fd : FuncData} {ps ks : List Str} {sp : Sp} {E : XK} {x : Str} {p pos : Pos} {e : Expr} {es : List Expr} {kws : List Keyword} {t tk : TA} {g : List Value → List Value → List Value} {gV : List V → List V → List V}
theorem pe_callR (F : FnR X.prog X.w X.K X.mg X.base CX k f sp) (hr : Room k X.A) (hg : Gl X x) (hm : X.mg x = some (.ref f)) (hk : PySem.W.keepIn X.K (.ref f) = true) (hx : Passes CX X E) (ha : PA X (e :: es) t) (hd : (x == ("__debug__" : Str)) = false := by decide)
    (he : starEach (e :: es) X.env = (false, eval e X.env) :: starEach es X.env := by rfl) (hp : (backTo pos (starEach es X.env)).any (·.1) = false := by rfl) : PE X (.Call (.Name x p) (e :: es) [] pos) (fun σ H Q => t σ H fun vs H1 => sp vs H1 Q E) := by
  refine ⟨fun pins s σ H Q I h => wpAny_Call_Name_kw (ld_glob I hg hm ?_ hd)⟩
  refine PySem.W.callWith_K (h₀ := X.base) I.ok.mod.kin hk (thn (ha.run pos pins s σ H _ I h) fun us s1 ⟨vs, H1, J, r, q⟩ => ⟨J.kIn, ?_⟩) he hp
  exact wpAny_call (run_fnR F hr hx J r q)
end
end Sw
namespace Sw
open PySem PySem.Spec PyProof.Rows L2
section
variable {X : Cx} {CX : CXT} {k : Nat} {f : Addr} {fd : FuncData} {ps ks : List Str} {sp : Sp} {E : XK} {x : Str} {p pos : Pos} {kws : List Keyword} {tk : TA} {g : List Value → List Value → List Value} {gV : List V → List V → List V}
/-- f(k = v, ..) -/
theorem pe_callKw (F : FnOk X.prog X.w X.K X.mg X.base CX k f fd ps sp) (hr : Room k X.A) (hg : Gl X x) (hm : X.mg x = some (.ref f)) (hk : PySem.W.keepIn X.K (.ref f) = true) (hb : KBn X.K fd ps 0 ks g gV) (hx : Passes CX X E) (hkw : PK X kws tk)
    (hall : (backToKw pos (keywordEach kws X.env)).all (·.1.isSome) = true := by rfl) (hks : (backToKw pos (keywordEach kws X.env)).filterMap (·.1) = ks := by rfl) (hd : (x == ("__debug__" : Str)) = false := by decide)
    (hp : ((backTo pos (starEach [] X.env)).any (·.1) || (backToKw pos (keywordEach kws X.env)).any (·.1.isNone)) = false := by rfl) : PE X (.Call (.Name x p) [] kws pos) (fun σ H Q => tk σ H fun zs H2 => zs.length = ks.length ∧ sp (gV [] zs) H2 Q E) := by
  refine ⟨fun pins s σ H Q I h => wpAny_Call_Name_kw (ld_glob I hg hm ?_ hd)⟩
  refine PySem.W.callWith_KW0 (h₀ := X.base) I.ok.mod.kin hk hall ?_ hp
  refine thn (hkw.run pos pins s σ H _ I h) fun ws s2 ⟨zs, H2, J, rz, l2, q2⟩ => ⟨J.kIn, ?_⟩
  rw [hks]
  exact run_fnN (us := []) (vs := []) F hr hb hx J .nil rz rfl l2 q2
end
/-- all parameters by name, in their order -/
theorem kb_all {K : PySem.W.Frag} {x q : Str} {pa : Arguments} {bo : List Stmt} {sc : Scope} {f : Addr} {fd : FuncData} {ps : List Str} (F : FunD K x q pa bo sc [] [] f fd)
    (h : ∀ (kV doc pm : Value) (an : Option Addr) (cv ct : Value) (ws : List Value), ws.length = ps.length → bindArgs (PySem.W.fnOf x q pa bo sc .none kV doc pm an cv ct) ⟨[], ps.zip ws⟩ = pure (ps.zip ws)) : KBn K fd ps 0 ps (fun us ws => us ++ ws) (fun vs zs => vs ++ zs) := by
  obtain ⟨oc, od, dV, kV, doc, pm, an, cv, ct, osl, rfl, lk, hcd, hD, hK⟩ := F.ex
  rcases hD with ⟨_, rfl⟩ | ⟨e, _⟩
  · refine ⟨fun s us ws _ l1 l2 => ?_, fun r1 r2 => r1.append r2⟩
    obtain rfl : us = [] := List.eq_nil_of_length_eq_zero l1
    exact .of_eq (h kV doc pm an cv ct ws l2)
  · exact absurd rfl e
/-! ### the bounds of a run's beginning -/
theorem units_of {k : Nat} {A : Around} (hr : Room k A) : A.units + 64 < cLine := hr.units
/-- a value of a kind that isinstance tells -/
inductive Kd (K : PySem.W.Frag) (H : Hp) : V → Prop
  | non : Kd K H .non
  | bl (b : Bool) : Kd K H (.bl b)
  | int (i : Int) : Kd K H (.int i)
  | str (z : Str) (h : z.length ≤ 1000000) : Kd K H (.str z)
  | lst {a : Addr} {xs : List V} (h : H a = some (.lst xs)) : Kd K H (.ref a)
  | tup {a : Addr} {xs : List V} (h : H a = some (.tup xs)) : Kd K H (.ref a)
  | dk {a : Addr} {xs : List (Key × V)} (h : H a = some (.dK xs)) : Kd K H (.ref a)
theorem Kd.same {K : PySem.W.Frag} {H H' : Hp} {x : V} (h : Kd K H x) (s : Same H H') : Kd K H' x := by
  cases h with
  | non => exact .non
  | bl b => exact .bl b
  | int i => exact .int i
  | str z h => exact .str z h
  | lst h => exact .lst (s _ _ h)
  | tup h => exact .tup (s _ _ h)
  | dk h => exact .dk (s _ _ h)
def isStrV : V → Bool
  | .str _ => true
  | _ => false
theorem isi_str {K : PySem.W.Frag} {H : Hp} {x : V} (h : Kd K H x) : ∃ t, TyX K H x t ∧ PySem.W.kitOne K t (.type "str") = some (isStrV x) := by
  cases h with
  | non => exact ⟨_, .base .non, kit_ty (a := "NoneType") (b := "str") (r := false) (by decide +kernel)⟩
  | bl b => exact ⟨_, .base (.bl b), kit_ty (a := "bool") (b := "str") (r := false) (by decide +kernel)⟩
  | int i => exact ⟨_, .base (.int i), kit_ty (a := "int") (b := "str") (r := false) (by decide +kernel)⟩
  | str z h => exact ⟨_, .base (.str z), kit_ty (a := "str") (b := "str") (r := true) (by decide +kernel)⟩
  | lst h => exact ⟨_, .base (.lst h), kit_ty (a := "list") (b := "str") (r := false) (by decide +kernel)⟩
  | tup h => exact ⟨_, .base (.tup h), kit_ty (a := "tuple") (b := "str") (r := false) (by decide +kernel)⟩
  | dk h => exact ⟨_, .base (.dK h), kit_ty (a := "dict") (b := "str") (r := false) (by decide +kernel)⟩
end Sw
namespace Sw
open PySem PySem.Spec PyProof.Rows L2
/-! ### small data -/
def asc (z : Str) : Bool := z.cps.toList.all fun c => decide (c < 128)
mutual
def okD : PyData → Bool
  | .none | .bool _ => true
  | .int i => decide (i.natAbs < 10 ^ 7)
  | .str x => asc x
  | .list xs | .tuple xs => okAll xs
  | .dict _ => false
def okAll : List PyData → Bool
  | [] => true
  | x :: xs => okD x && okAll xs
end
theorem asc_lt {z : Str} (h : asc z = true) : ∀ c ∈ z.cps.toList, c < 128 := fun c hc => of_decide_eq_true (List.all_eq_true.mp h c hc)
mutual
theorem ok_can : ∀ d : PyData, okD d = true → d.canLay0 = true
  | .none, _ => by simp only [PyData.canLay0]
  | .bool _, _ => by simp only [PyData.canLay0]
  | .int _, _ => by simp only [PyData.canLay0]
  | .str x, h => by
    have := asc_lt (by simpa only [okD] using h)
    simp only [PyData.canLay0, PyData.strOk]
    rw [← Array.all_toList]
    exact List.all_eq_true.mpr fun c hc => decide_eq_true (Nat.lt_of_lt_of_le (this c hc) (by decide))
  | .list xs, h => by simpa only [PyData.canLay0] using ok_canAll xs (by simpa only [okD] using h)
  | .tuple xs, h => by simpa only [PyData.canLay0] using ok_canAll xs (by simpa only [okD] using h)
  | .dict _, h => by simp [okD] at h
theorem ok_canAll : ∀ ds : List PyData, okAll ds = true → PyData.canLayAll0 ds = true
  | [], _ => by simp only [PyData.canLayAll0]
  | d :: ds, h => by
    obtain ⟨h1, h2⟩ := Bool.and_eq_true_iff.mp (show (okD d && okAll ds) = true by simpa only [okAll] using h)
    simp only [PyData.canLayAll0, ok_can d h1, ok_canAll ds h2, Bool.and_self]
end
mutual
theorem ok_show : ∀ d : PyData, okD d = true → d.showable = true
  | .none, _ => by simp only [PyData.showable]
  | .bool _, _ => by simp only [PyData.showable]
  | .int i, h => by
    have h1 : i.natAbs < 10 ^ 7 := of_decide_eq_true (by simpa only [okD] using h)
    simp only [PyData.showable]
    exact decide_eq_true (by
      by_cases z : i.natAbs = 0
      · rw [z]; decide
      · have : i.natAbs.log2 < 24 := (Nat.log2_lt z).mpr (by omega)
        omega)
  | .str x, _ => by simp only [PyData.showable]
  | .list xs, h => by simpa only [PyData.showable] using ok_showAll xs (by simpa only [okD] using h)
  | .tuple xs, h => by simpa only [PyData.showable] using ok_showAll xs (by simpa only [okD] using h)
  | .dict _, h => by simp [okD] at h
theorem ok_showAll : ∀ ds : List PyData, okAll ds = true → PyData.showableAll ds = true
  | [], _ => by simp only [PyData.showableAll]
  | d :: ds, h => by
    obtain ⟨h1, h2⟩ := Bool.and_eq_true_iff.mp (show (okD d && okAll ds) = true by simpa only [okAll] using h)
    simp only [PyData.showableAll, ok_show d h1, ok_showAll ds h2, Bool.and_self]
end
mutual
theorem ok_short : ∀ d : PyData, okD d = true → d.leavesShort 10 = true
  | .none, _ => by simp only [PyData.leavesShort]
  | .bool _, _ => by simp only [PyData.leavesShort]
  | .int i, h => by
    have h1 : i.natAbs < 10 ^ 7 := of_decide_eq_true (by simpa only [okD] using h)
    simp only [PyData.leavesShort]
    have := int_text_length_le10 (k := 7) (by decide) h1
    refine decide_eq_true ?_
    simp only [PyData.shown]
    rw [PySem.ofString_length]
    omega
  | .str x, h => by
    have h1 := asc_lt (by simpa only [okD] using h)
    simp only [PyData.leavesShort]
    exact List.all_eq_true.mpr fun c hc => decide_eq_true (Nat.lt_of_lt_of_le (h1 c hc) (by decide))
  | .list xs, h => by simpa only [PyData.leavesShort] using ok_shortAll xs (by simpa only [okD] using h)
  | .tuple xs, h => by simpa only [PyData.leavesShort] using ok_shortAll xs (by simpa only [okD] using h)
  | .dict _, h => by simp [okD] at h
theorem ok_shortAll : ∀ ds : List PyData, okAll ds = true → PyData.leavesShortAll 10 ds = true
  | [], _ => by simp only [PyData.leavesShortAll]
  | d :: ds, h => by
    obtain ⟨h1, h2⟩ := Bool.and_eq_true_iff.mp (show (okD d && okAll ds) = true by simpa only [okAll] using h)
    simp only [PyData.leavesShortAll, ok_short d h1, ok_shortAll ds h2, Bool.and_self]
end
/-- data that repr and == take -/
structure Good (d : PyData) : Prop where
  ok : okD d = true
  dp : d.depth ≤ 60
  bk : d.bulk ≤ 2 ^ 20
theorem Good.shaped {d : PyData} (g : Good d) : SeqAt.shaped d = true := by
  unfold SeqAt.shaped
  rw [ok_can d g.ok, Bool.true_and]
  exact decide_eq_true (Nat.le_trans g.dp (by decide))
section
variable {X : Cx}
theorem call_rp (hG : X.A.guards = some []) (hu : X.A.units + 64 < cLine) : CallR X (.builtin "repr") (fun xs H Q => ∃ x d, xs = [x] ∧ Dp X.K H x d ∧ Good d ∧ Q (.str d.shown) H) := by
  intro pins s σ H xs us Q I r ⟨x, d, e, h, g, q⟩
  exact call_reprD hG hu pins s σ H xs us Q I r ⟨x, d, e, h, ok_show d g.ok, g.dp, PyData.shown_fits_bulk (B := 10) (by decide) (by decide) (ok_short d g.ok) g.bk, q⟩
theorem op_eqG (hu : X.A.units + 64 < cLine) : OpR X (compareOp .Eq) (fun x y H Q => ∃ d e, Dp X.K H x d ∧ Dp X.K H y e ∧ Good d ∧ Good e ∧ Q (.bl (PyData.eqv d e)) H) := by
  intro pins s σ H x y v u Q I rx ry ⟨d, e, h1, h2, g1, g2, q⟩
  exact op_eqD hu pins s σ H x y v u Q I rx ry ⟨d, e, h1, h2, g1.shaped, g2.shaped, q⟩
theorem op_neG (hu : X.A.units + 64 < cLine) : OpR X (compareOp .NotEq) (fun x y H Q => ∃ d e, Dp X.K H x d ∧ Dp X.K H y e ∧ Good d ∧ Good e ∧ Q (.bl (!PyData.eqv d e)) H) := by
  intro pins s σ H x y v u Q I rx ry ⟨d, e, h1, h2, g1, g2, q⟩
  exact op_neD hu pins s σ H x y v u Q I rx ry ⟨d, e, h1, h2, g1.shaped, g2.shaped, q⟩
end
/-! ### flat lists as data -/
theorem dp_strs {K : PySem.W.Frag} {H : Hp} : ∀ xs : List Str, DpAll K H (xs.map V.str) (xs.map PyData.str)
  | [] => .nil
  | x :: xs => .cons (.str x) (dp_strs xs)
theorem dp_ints {K : PySem.W.Frag} {H : Hp} : ∀ xs : List Int, DpAll K H (xs.map V.int) (xs.map PyData.int)
  | [] => .nil
  | x :: xs => .cons (.int x) (dp_ints xs)
theorem ok_strs : ∀ {xs : List Str}, (∀ x ∈ xs, asc x = true) → okAll (xs.map PyData.str) = true
  | [], _ => by simp only [List.map_nil, okAll]
  | x :: xs, h => by simp only [List.map_cons, okAll, okD, h x (List.mem_cons_self ..), ok_strs fun y hy => h y (List.mem_cons_of_mem _ hy), Bool.and_self]
theorem depth_strs : ∀ xs : List Str, PyData.depthAll (xs.map PyData.str) = 0
  | [] => by simp only [List.map_nil, PyData.depthAll]
  | x :: xs => by simp only [List.map_cons, PyData.depthAll, PyData.depth, depth_strs xs, Nat.max_self]
theorem bulk_strs : ∀ {xs : List Str} {n : Nat}, (∀ x ∈ xs, x.length ≤ n) → PyData.bulkAll (xs.map PyData.str) ≤ (n + 1) * xs.length
  | [], _, _ => by simp only [List.map_nil, PyData.bulkAll, Nat.zero_le]
  | x :: xs, n, h => by
    have h1 : x.cps.size ≤ n := h x (List.mem_cons_self ..)
    have h2 := bulk_strs (xs := xs) (n := n) fun y hy => h y (List.mem_cons_of_mem _ hy)
    simp only [List.map_cons, PyData.bulkAll, PyData.bulk, List.length_cons, Nat.mul_succ]
    omega
theorem eqv_nil (ds : List PyData) : PyData.eqv (.list ds) (.list []) = ds.isEmpty := by
  cases ds <;> simp [PyData.eqv, PyData.eqvAll]
mutual
theorem eqv_self : ∀ d : PyData, okD d = true → PyData.eqv d d = true
  | .none, _ => by simp only [PyData.eqv]
  | .bool b, _ => by simp [PyData.eqv]
  | .int _, _ => by simp [PyData.eqv]
  | .str x, h => by simp [PyData.eqv]
  | .list xs, h => by simpa only [PyData.eqv] using eqv_selfAll xs (by simpa only [okD] using h)
  | .tuple xs, h => by simpa only [PyData.eqv] using eqv_selfAll xs (by simpa only [okD] using h)
  | .dict _, h => by simp [okD] at h
theorem eqv_selfAll : ∀ ds : List PyData, okAll ds = true → PyData.eqvAll ds ds = true
  | [], _ => by simp only [PyData.eqvAll]
  | d :: ds, h => by
    obtain ⟨h1, h2⟩ := Bool.and_eq_true_iff.mp (show (okD d && okAll ds) = true by simpa only [okAll] using h)
    simp only [PyData.eqvAll, eqv_self d h1, eqv_selfAll ds h2, Bool.and_self]
end
theorem good_strs {xs : List Str} {n : Nat} (h1 : ∀ x ∈ xs, asc x = true) (h2 : ∀ x ∈ xs, x.length ≤ n) (h3 : (n + 1) * xs.length ≤ 2 ^ 20) : Good (.list (xs.map PyData.str)) where
  ok := by simpa only [okD] using ok_strs h1
  dp := by simp only [PyData.depth, depth_strs]; omega
  bk := by simp only [PyData.bulk]; exact Nat.le_trans (bulk_strs h2) h3
end Sw
namespace Sw
open PySem PySem.Spec PyProof.Rows L2
/-! ### beginnings and rests of texts -/
def mkS (l : List Nat) : Str := ⟨l.toArray⟩
def tkS (z : Str) (n : Nat) : Str := mkS (z.cps.toList.take n)
def drS (z : Str) (n : Nat) : Str := mkS (z.cps.toList.drop n)
theorem mkS_codes (l : List Nat) : (mkS l).cps.toList = l := rfl
theorem mkS_self (z : Str) : mkS z.cps.toList = z := by cases z; rfl
theorem mkS_len (l : List Nat) : (mkS l).length = l.length := rfl
theorem codes_len (z : Str) : z.cps.toList.length = z.length := Array.length_toList
theorem mkS_inj {a b : Str} (h : a.cps.toList = b.cps.toList) : a = b := by rw [← mkS_self a, ← mkS_self b, h]
theorem cut_head {z : Str} {n : Nat} (h : n ≤ z.length) : cutS z none (some (n : Int)) = tkS z n := by
  unfold cutS tkS mkS
  rw [HT.sIx_none, HT.sIx_nat, Nat.min_eq_left h, List.drop_zero, Nat.sub_zero]
theorem cut_tail {z : Str} {n : Nat} (h : n ≤ z.length) : cutS z (some (n : Int)) none = drS z n := by
  unfold cutS drS mkS
  rw [HT.sIx_none, HT.sIx_nat, Nat.min_eq_left h, List.take_of_length_le (by rw [List.length_drop, codes_len]; exact Nat.le_refl _)]
theorem item_at {z : Str} {n : Nat} (h : n < z.length) : atI z.cps.toList (n : Int) = some (z.cps.toList[n]'(by rw [codes_len]; exact h)) := atI_nat (List.getElem?_eq_getElem (by rw [codes_len]; exact h))
theorem asc_mk {l : List Nat} (h : ∀ c ∈ l, c < 128) : asc (mkS l) = true := List.all_eq_true.mpr fun c hc => decide_eq_true (h c hc)
theorem asc_tk {z : Str} (h : asc z = true) (n : Nat) : asc (tkS z n) = true := asc_mk fun c hc => asc_lt h c (List.mem_of_mem_take hc)
theorem asc_dr {z : Str} (h : asc z = true) (n : Nat) : asc (drS z n) = true := asc_mk fun c hc => asc_lt h c (List.mem_of_mem_drop hc)
theorem tk_len (z : Str) (n : Nat) : (tkS z n).length ≤ z.length := by
  show (z.cps.toList.take n).length ≤ _
  rw [List.length_take, codes_len]; omega
theorem dr_len (z : Str) (n : Nat) : (drS z n).length ≤ z.length := by
  show (z.cps.toList.drop n).length ≤ _
  rw [List.length_drop, codes_len]; omega
theorem line_big : (1000000 : Nat) ≤ sizeLine := by decide
end Sw
namespace Sw
open PySem PySem.Spec PyProof.Rows L2
/-! ### text * int, with its signs -/
theorem foldl_in (a : Array Nat) : ∀ (k : Nat) (b : Array Nat) (c : Nat), c ∈ ((List.replicate k a).foldl (· ++ ·) b).toList → c ∈ b.toList ∨ c ∈ a.toList
  | 0, b, c, h => .inl (by simpa using h)
  | k + 1, b, c, h => by
    rw [List.replicate_succ, List.foldl_cons] at h
    rcases foldl_in a k (b ++ a) c h with h | h
    · rw [Array.toList_append] at h
      exact List.mem_append.mp h
    · exact .inr h
section
variable {X : Cx}
theorem op_mulT : OpR X (binaryOp .Mult) (fun x y H Q => ∃ (z : Str) (k : Int), x = .str z ∧ y = .int k ∧ 2 ≤ k ∧ k ≤ 1000 ∧ 1 ≤ z.length ∧ z.length ≤ 1000 ∧ ∀ u : Str, u.length = k.toNat * z.length → (∀ c ∈ u.cps.toList, c ∈ z.cps.toList) → Q (.str u) H) := by
  intro pins s σ H x y v u Q I rx ry h
  obtain ⟨z, k, rfl, rfl, h1, h2, h3, h4, q⟩ := h
  obtain ⟨t, rfl⟩ := rx
  obtain ⟨t', rfl⟩ := ry
  have hk : z.length * k.toNat ≤ 1000000 := by
    have : k.toNat ≤ 1000 := by omega
    calc z.length * k.toNat ≤ 1000 * 1000 := Nat.mul_le_mul h4 this
      _ = 1000000 := rfl
  have big : (1000000 : Nat) ≤ sizeLine := line_big
  have e0 : (k == 1 || z.length == 0) = false := by
    rw [Bool.or_eq_false_iff]
    exact ⟨beq_eq_false_iff_ne.mpr (by omega), beq_eq_false_iff_ne.mpr (by omega)⟩
  refine P.mul_str ?_ (fun _ _ => ?_) (fun _ _ => ?_) ?_
  · have a1 : ¬ k < -(2 ^ 63 : Int) := by omega
    have a2 : ¬ k ≥ 2 ^ 63 := by omega
    rw [decide_eq_false a1, decide_eq_false a2]; rfl
  · have b1 : (1000 : Int) ≤ (2 ^ 63 - 1) / k := by
      rw [Int.le_ediv_iff_mul_le (by omega)]
      have : 1000 * k ≤ 1000000 := by omega
      omega
    omega
  · unfold Builtin.Str.tooLong
    simp only [decide_eq_false_iff_not]
    omega
  · rw [if_neg (show ¬ k < 1 by omega), e0]
    simp only [Bool.false_eq_true, if_false]
    have hlen : (⟨(List.replicate k.toNat z.cps).foldl (· ++ ·) #[]⟩ : Str).length = k.toNat * z.length := by
      show ((List.replicate k.toNat z.cps).foldl (· ++ ·) #[]).size = _
      rw [foldl_cat]
      show 0 + k.toNat * z.cps.size = k.toNat * z.cps.size
      omega
    refine ⟨?_, .str _, H, I.tok _, ⟨_, rfl⟩, q _ hlen fun c hc => ?_⟩
    · rw [hlen, Nat.mul_comm]; omega
    · rcases foldl_in z.cps k.toNat #[] c hc with h | h
      · cases h
      · exact h
end
/-! ### what stays -/
theorem seqT_same {K : PySem.W.Frag} {H H' : Hp} {a : Addr} {xs : List V} (e : Same H H') (h : SqT K H a xs) : SqT K H' a xs := by
  rcases h with (h | ⟨o, h⟩) | h
  · exact .inl (.inl (e _ _ h))
  · exact .inl (.inr ⟨o, e _ _ h⟩)
  · exact .inr h
mutual
theorem dp_same {K : PySem.W.Frag} {H H' : Hp} (e : Same H H') : ∀ (d : PyData) (v : V), Dp K H v d → Dp K H' v d
  | .none, _, h => by cases h; exact .non
  | .bool _, _, h => by cases h; exact .bl _
  | .int _, _, h => by cases h; exact .int _
  | .str _, _, h => by cases h; exact .str _
  | .list ds, _, h => by
    cases h with
    | lst h1 h2 => exact .lst (e.seq h1) (dps_same e ds _ h2)
  | .tuple ds, _, h => by
    cases h with
    | tup h1 h2 => exact .tup (seqT_same e h1) (dps_same e ds _ h2)
  | .dict _, _, h => by cases h
theorem dps_same {K : PySem.W.Frag} {H H' : Hp} (e : Same H H') : ∀ (ds : List PyData) (vs : List V), DpAll K H vs ds → DpAll K H' vs ds
  | [], _, h => by cases h; exact .nil
  | d :: ds, _, h => by
    cases h with
    | cons h1 h2 => exact .cons (dp_same e d _ h1) (dps_same e ds _ h2)
end
/-- the repr of a value is t -/
inductive Rv (K : PySem.W.Frag) (H : Hp) : V → Str → Prop
  | data {x : V} {d : PyData} (h : Dp K H x d) (s : d.showable = true) (dp : d.depth ≤ 60) (z : d.shown.length ≤ sizeLine) : Rv K H x d.shown
  | dk {a : Addr} (h : H a = some (.dK [])) : Rv K H (.ref a) (PyData.shown (.dict []))
theorem Rv.same {K : PySem.W.Frag} {H H' : Hp} {x : V} {t : Str} (e : Same H H') (h : Rv K H x t) : Rv K H' x t := by
  cases h with
  | data h s dp z => exact .data (dp_same e _ _ h) s dp z
  | dk h => exact .dk (e _ _ h)
theorem Rv.good {K : PySem.W.Frag} {H : Hp} {x : V} {d : PyData} (h : Dp K H x d) (g : Good d) : Rv K H x d.shown :=
  .data h (ok_show d g.ok) g.dp (PyData.shown_fits_bulk (B := 10) (by decide) (by decide) (ok_short d g.ok) g.bk)
theorem call_rv {X : Cx} (hG : X.A.guards = some []) (hu : X.A.units + 64 < cLine) : CallR X (.builtin "repr") (fun xs H Q => ∃ x t, xs = [x] ∧ Rv X.K H x t ∧ Q (.str t) H) := by
  intro pins s σ H xs us Q I r ⟨x, t, e, h, q⟩
  cases h with
  | data h hs dp z => exact call_reprD hG hu pins s σ H xs us Q I r ⟨x, _, e, h, hs, dp, z, q⟩
  | dk h => exact call_repr0 hG hu pins s σ H xs us Q I r ⟨_, e, h, q⟩
/-- a value that is asked: its kind, its repr -/
structure Itm (K : PySem.W.Frag) (H : Hp) (x : V) : Prop where
  kd : Kd K H x
  sm : ∀ z, x = .str z → asc z = true ∧ z.length ≤ 1000
  rv : ∃ t, Rv K H x t
theorem Itm.same {K : PySem.W.Frag} {H H' : Hp} {x : V} (h : Itm K H x) (e : Same H H') : Itm K H' x := ⟨h.kd.same e, h.sm, let ⟨t, r⟩ := h.rv; ⟨t, r.same e⟩⟩
theorem good_str {z : Str} (h : asc z = true) (hl : z.length ≤ 1000) : Good (.str z) where
  ok := by simpa only [okD] using h
  dp := by simp only [PyData.depth]; omega
  bk := by
    simp only [PyData.bulk]
    have e : z.cps.size ≤ 1000 := hl
    omega
theorem good_strsT {xs : List Str} {n : Nat} (h1 : ∀ x ∈ xs, asc x = true) (h2 : ∀ x ∈ xs, x.length ≤ n) (h3 : (n + 1) * xs.length ≤ 2 ^ 20) : Good (.tuple (xs.map PyData.str)) where
  ok := by simpa only [okD] using ok_strs h1
  dp := by simp only [PyData.depth, depth_strs]; omega
  bk := by simp only [PyData.bulk]; exact Nat.le_trans (bulk_strs h2) h3
section
variable {K : PySem.W.Frag} {H : Hp}
theorem itm_str {z : Str} (h : asc z = true) (hl : z.length ≤ 1000) : Itm K H (.str z) := ⟨.str z (by omega), fun y e => by cases e; exact ⟨h, hl⟩, _, .good (.str z) (good_str h hl)⟩
theorem itm_non : Itm K H .non := ⟨.non, (fun y e => nomatch e), _, .good .non ⟨by decide, by decide, by decide⟩⟩
theorem itm_bl (b : Bool) : Itm K H (.bl b) := ⟨.bl b, (fun y e => nomatch e), _, .good (.bl b) ⟨by simp only [okD], by simp only [PyData.depth]; omega, by cases b <;> decide⟩⟩
theorem itm_int {i : Int} {k : Nat} (hk : 0 < k) (hk2 : k ≤ 1000) (h : i.natAbs < 10 ^ k) (hs : (PyData.int i).showable = true) : Itm K H (.int i) :=
  ⟨.int i, (fun y e => nomatch e), _, .data (.int i) hs (by simp only [PyData.depth]; omega) (by
    have := int_text_length_le10 hk h
    have := line_big
    simp only [PyData.shown]
    rw [PySem.ofString_length]
    omega)⟩
theorem itm_strs {a : Addr} {xs : List Str} {n : Nat} (ha : H a = some (.lst (xs.map V.str))) (h1 : ∀ x ∈ xs, asc x = true) (h2 : ∀ x ∈ xs, x.length ≤ n) (h3 : (n + 1) * xs.length ≤ 2 ^ 20) : Itm K H (.ref a) :=
  ⟨.lst ha, (fun y e => nomatch e), _, .good (.lst (SqL.of ha) (dp_strs xs)) (good_strs h1 h2 h3)⟩
theorem itm_strsT {a : Addr} {xs : List Str} {n : Nat} (ha : H a = some (.tup (xs.map V.str))) (h1 : ∀ x ∈ xs, asc x = true) (h2 : ∀ x ∈ xs, x.length ≤ n) (h3 : (n + 1) * xs.length ≤ 2 ^ 20) : Itm K H (.ref a) :=
  ⟨.tup ha, (fun y e => nomatch e), _, .good (.tup (SqT.of ha) (dp_strs xs)) (good_strsT h1 h2 h3)⟩
theorem itm_dk {a : Addr} (ha : H a = some (.dK [])) : Itm K H (.ref a) := ⟨.dk ha, (fun y e => nomatch e), _, .dk ha⟩
end
end Sw
namespace K00
open PySem PySem.Spec PyProof.Rows L2 Sw
def top (i : Nat) : Stmt := PySem.Challenge.pw_streamwrights_k00_errors.main.body.getD i (.Pass ⟨0, 0, 0, 0⟩)
/-- the place of a class's first def -/
def ini (i : Nat) : Stmt := match top i with
  | .ClassDef _ _ _ (b :: _) _ _ _ _ _ _ _ => b
  | s => s
/-! ### what the written part says of the errors -/
/-- all but the base, as the law counts them -/
def clsN : List Str := ["BadFormat", "BadText", "BadTranslator", "NotSure", "BadReader", "Drifts", "BadPiece", "NoAnswer", "NoRest", "BadMarking", "BadPlace", "BadWord", "BadLine", "OtherTexts", "BadName", "NoName", "NotAlike", "OtherTable", "OtherNumber",
  "NothingToUndo", "NothingToRedo", "InvalidCommand", "Silent", "Twins", "Stops"]
def bareN : List Str := ["StreamError", "OtherTable", "OtherNumber", "NothingToUndo", "NothingToRedo", "InvalidCommand"]
def fldN : List Str := ["part", "place", "paper", "drift", "text", "loop", "rest", "other", "answer", "index", "name"]
def exB : List Value := [.type "Exception", .type "BaseException", .type "object"]
def xcB (K : PySem.W.Frag) (C : Addr) : Bool := PySem.W.excInitIn K C exB "Exception.__new__" && (PySem.W.excOver K C exB && (PySem.W.hasDictIn K C && (PySem.W.keepIn K (.ref C) && (He.eqO (PySem.W.findIn K (.ref C) "__setattr__") (some (some (.builtin "object.__setattr__"))) &&
  (He.eqO (PySem.W.findIn K (.ref C) "__getattribute__") (some (some (.builtin "BaseException.__getattribute__"))) && (He.eqO (PySem.W.findIn K (.ref C) "__getattr__") (some none) && (He.eqO (PySem.W.findIn K (.ref C) "__class__") (some (some (.builtin "object.__class__"))) &&
  (decide (PySem.W.subIn K (.ref C) (.type "BaseException") = some true) && (decide (PySem.W.typeIn K (.ref C) = some (.type "type")) && (decide (PySem.W.mroIn K C (.type "object") = some true) && fldN.all fun f => He.eqO (PySem.W.findIn K (.ref C) f) (some none)))))))))))
def kitB (K : PySem.W.Frag) (x : Str) (c : Value) (b : Bool) : Bool := decide (PySem.W.kitOne K (.ref (He.ga K x)) c = some b)
def usual : List String := ["ValueError", "LookupError", "TypeError", "ArithmeticError", "RuntimeError"]
def chk (K : PySem.W.Frag) : Bool :=
  He.eqO (PySem.W.specialIn K (.builtin "object.__class__") "__get__") (some (some (.builtin "getset_descriptor.__get__"))) && (decide (PySem.W.takesIn K (.builtin "object.__class__") = some true) && (((("StreamError" : Str) :: clsN).all fun x => xcB K (He.ga K x)) &&
  (((("StreamError" : Str) :: clsN).all fun x => clsN.all fun y => kitB K x (.ref (He.ga K y)) (x == y)) && ((clsN.all fun x => kitB K x (.ref (He.ga K "StreamError")) true && (decide (PySem.W.exmOne K (.ref (He.ga K x)) (.ref (He.ga K "StreamError")) = some true) && (kitB K x (.type "Exception") true && usual.all fun t => kitB K x (.type t) false))) &&
  ((bareN.all fun x => PySem.W.excIn K (He.ga K x) exB "Exception.__new__") && ((clsN.filter fun x => !bareN.contains x).all fun x => He.eqO (PySem.W.findIn K (.ref (He.ga K x)) "__init__") (some (some (.ref (He.ma K (He.ga K x) "__init__")))) && PySem.W.isFn K (.ref (He.ma K (He.ga K x) "__init__"))))))))
def hook (n : Nat) (fa : List He.Fa) (fn : List He.DefD) : PySem.W.Hook where
  α := Bool × He.AlD
  obs := fun s => (chk (He.frG s.heap.get? (He.asD s.heap.get? n)), He.obsDG n fa fn s.heap.get?)
  val := fun _ => (true, He.valD fn)
  says := fun _ h => ∃ K : PySem.W.Frag, K.In h ∧ chk K = true ∧ He.SaysD fa fn K
  of := fun _ _ e => ⟨_, He.frG_in, congrArg Prod.fst e, congrArg Prod.snd e⟩
  keeps := fun _ _ _ ⟨K, hK, c⟩ k => ⟨K, PySem.W.Frag.In.keeps hK k, c⟩
end K00
namespace K00
open PySem PySem.Spec PyProof.Rows L2 Sw
def dd0 : He.DefD := ⟨("_law_deck", none), "_law_deck", "_law_deck", defArgs (top 28), defBody (top 28), defScope (top 28), [], []⟩
def dd1 : He.DefD := ⟨("_law_draw", none), "_law_draw", "_law_draw", defArgs (top 29), defBody (top 29), defScope (top 29), [], []⟩
def dd2 : He.DefD := ⟨("_law_pick", none), "_law_pick", "_law_pick", defArgs (top 30), defBody (top 30), defScope (top 30), [], []⟩
def dd3 : He.DefD := ⟨("_law_made_0", none), "_law_made_0", "_law_made_0", defArgs (top 31), defBody (top 31), defScope (top 31), [], []⟩
def dd4 : He.DefD := ⟨("_law_made_1", none), "_law_made_1", "_law_made_1", defArgs (top 32), defBody (top 32), defScope (top 32), [], []⟩
def dd5 : He.DefD := ⟨("_law_made_2", none), "_law_made_2", "_law_made_2", defArgs (top 33), defBody (top 33), defScope (top 33), [], []⟩
def dd6 : He.DefD := ⟨("_law_bare", none), "_law_bare", "_law_bare", defArgs (top 34), defBody (top 34), defScope (top 34), [], []⟩
def dd7 : He.DefD := ⟨("_law_wide", none), "_law_wide", "_law_wide", defArgs (top 35), defBody (top 35), defScope (top 35), [], []⟩
def dd8 : He.DefD := ⟨("_law_made", none), "_law_made", "_law_made", defArgs (top 36), defBody (top 36), defScope (top 36), [], []⟩
def dd9 : He.DefD := ⟨("_law_kept", none), "_law_kept", "_law_kept", defArgs (top 37), defBody (top 37), defScope (top 37), [], []⟩
def dd10 : He.DefD := ⟨("_law_kinds", none), "_law_kinds", "_law_kinds", defArgs (top 38), defBody (top 38), defScope (top 38), [], []⟩
def dd11 : He.DefD := ⟨("_law_is_usual", none), "_law_is_usual", "_law_is_usual", defArgs (top 39), defBody (top 39), defScope (top 39), [], []⟩
def dd12 : He.DefD := ⟨("_law_caught", none), "_law_caught", "_law_caught", defArgs (top 40), defBody (top 40), defScope (top 40), [], []⟩
def dd13 : He.DefD := ⟨("law", none), "law", "law", defArgs (top 41), defBody (top 41), defScope (top 41), [], []⟩
def di1 : He.DefD := ⟨("BadFormat", some "__init__"), "__init__", "BadFormat.__init__", defArgs (ini 2), defBody (ini 2), defScope (ini 2), [], []⟩
def di2 : He.DefD := ⟨("BadText", some "__init__"), "__init__", "BadText.__init__", defArgs (ini 3), defBody (ini 3), defScope (ini 3), [], []⟩
def di3 : He.DefD := ⟨("BadTranslator", some "__init__"), "__init__", "BadTranslator.__init__", defArgs (ini 4), defBody (ini 4), defScope (ini 4), [], []⟩
def di4 : He.DefD := ⟨("NotSure", some "__init__"), "__init__", "NotSure.__init__", defArgs (ini 5), defBody (ini 5), defScope (ini 5), [], []⟩
def di5 : He.DefD := ⟨("BadReader", some "__init__"), "__init__", "BadReader.__init__", defArgs (ini 6), defBody (ini 6), defScope (ini 6), [], []⟩
def di6 : He.DefD := ⟨("Drifts", some "__init__"), "__init__", "Drifts.__init__", defArgs (ini 7), defBody (ini 7), defScope (ini 7), [], []⟩
def di7 : He.DefD := ⟨("BadPiece", some "__init__"), "__init__", "BadPiece.__init__", defArgs (ini 8), defBody (ini 8), defScope (ini 8), [], []⟩
def di8 : He.DefD := ⟨("NoAnswer", some "__init__"), "__init__", "NoAnswer.__init__", defArgs (ini 9), defBody (ini 9), defScope (ini 9), [], []⟩
def di9 : He.DefD := ⟨("NoRest", some "__init__"), "__init__", "NoRest.__init__", defArgs (ini 10), defBody (ini 10), defScope (ini 10), [], []⟩
def di10 : He.DefD := ⟨("BadMarking", some "__init__"), "__init__", "BadMarking.__init__", defArgs (ini 11), defBody (ini 11), defScope (ini 11), [], []⟩
def di12 : He.DefD := ⟨("BadPlace", some "__init__"), "__init__", "BadPlace.__init__", defArgs (ini 13), defBody (ini 13), defScope (ini 13), [], []⟩
def di13 : He.DefD := ⟨("BadWord", some "__init__"), "__init__", "BadWord.__init__", defArgs (ini 14), defBody (ini 14), defScope (ini 14), [], []⟩
def di14 : He.DefD := ⟨("Silent", some "__init__"), "__init__", "Silent.__init__", defArgs (ini 15), defBody (ini 15), defScope (ini 15), [], []⟩
def di15 : He.DefD := ⟨("Twins", some "__init__"), "__init__", "Twins.__init__", defArgs (ini 16), defBody (ini 16), defScope (ini 16), [], []⟩
def di16 : He.DefD := ⟨("BadLine", some "__init__"), "__init__", "BadLine.__init__", defArgs (ini 17), defBody (ini 17), defScope (ini 17), [], []⟩
def di17 : He.DefD := ⟨("OtherTexts", some "__init__"), "__init__", "OtherTexts.__init__", defArgs (ini 18), defBody (ini 18), defScope (ini 18), [], []⟩
def di19 : He.DefD := ⟨("Stops", some "__init__"), "__init__", "Stops.__init__", defArgs (ini 20), defBody (ini 20), defScope (ini 20), [], []⟩
def di20 : He.DefD := ⟨("BadName", some "__init__"), "__init__", "BadName.__init__", defArgs (ini 21), defBody (ini 21), defScope (ini 21), [], []⟩
def di21 : He.DefD := ⟨("NoName", some "__init__"), "__init__", "NoName.__init__", defArgs (ini 22), defBody (ini 22), defScope (ini 22), [], []⟩
def di22 : He.DefD := ⟨("NotAlike", some "__init__"), "__init__", "NotAlike.__init__", defArgs (ini 23), defBody (ini 23), defScope (ini 23), [], []⟩
def fn : List He.DefD := [dd0, dd1, dd2, dd3, dd4, dd5, dd6, dd7, dd8, dd9, dd10, dd11, dd12, dd13, di1, di2, di3, di4, di5, di6, di7, di8, di9, di10, di12, di13, di14, di15, di16, di17, di19, di20, di21, di22]
def fa1 : List He.Fa := [.glo "_law_deck", .glo "_law_draw", .glo "_law_pick", .glo "_law_made_0", .glo "_law_made_1", .glo "_law_made_2", .glo "_law_bare", .glo "_law_wide", .glo "_law_made", .glo "_law_kept", .glo "_law_kinds", .glo "_law_is_usual", .glo "_law_caught", .glo "law", .glo "StreamError", .glo "BadFormat", .glo "BadText", .glo "BadTranslator", .glo "NotSure", .glo "BadReader", .glo "Drifts", .glo "BadPiece", .glo "NoAnswer", .glo "NoRest", .glo "BadMarking", .glo "OtherTable", .glo "BadPlace", .glo "BadWord", .glo "Silent", .glo "Twins"]
def fa2 : List He.Fa := [.glo "BadLine", .glo "OtherTexts", .glo "OtherNumber", .glo "Stops", .glo "BadName", .glo "NoName", .glo "NotAlike", .glo "NothingToUndo", .glo "NothingToRedo", .glo "InvalidCommand", .free "int", .free "list", .free "len", .free "range", .free "isinstance", .free "repr", .free "Exception", .free "ValueError", .free "LookupError", .free "TypeError", .free "ArithmeticError", .free "RuntimeError"]
def fa : List He.Fa := fa1 ++ fa2
abbrev R : PySem.W.OpenRow := PySem.W.OpenLaw.row PySem.Challenge.rw_streamwrights_k00_errors
abbrev hk : PySem.W.Hook := hook 6 fa fn
def ob (s : PySem.W.SharedT) : Bool × He.AlD := (chk (He.frG (HandSHeadRun.getT s) (He.asD (HandSHeadRun.getT s) 6)), He.obsDG 6 fa fn (HandSHeadRun.getT s))
theorem ob_eq (s : PySem.W.SharedT) : ob s = hk.obs s.abs := by
  have e : HandSHeadRun.getT s = s.abs.heap.get? := funext (HandSHeadRun.getT_eq s)
  unfold ob
  rw [e] <;> rfl
def others1 : List Str := ["_law_deck", "_law_draw", "_law_pick", "_law_made_0", "_law_made_1", "_law_made_2", "_law_bare", "_law_wide", "_law_made", "_law_kept", "_law_kinds", "_law_is_usual", "_law_caught", "StreamError", "BadFormat", "BadText", "BadTranslator", "NotSure", "BadReader", "Drifts"]
def others2 : List Str := ["BadPiece", "NoAnswer", "NoRest", "BadMarking", "OtherTable", "BadPlace", "BadWord", "Silent", "Twins", "BadLine", "OtherTexts", "OtherNumber", "Stops", "BadName", "NoName", "NotAlike", "NothingToUndo", "NothingToRedo", "InvalidCommand"]
def others : List Str := others1 ++ others2
theorem run (w : World) : HandSHeadRun.RunEq R (PySem.W.view R.prog [41]) hk ob 60000 others w := by
  intro os
  kernel_rfl
end K00
namespace K00
open PySem PySem.Spec PyProof.Rows L2 Sw
structure XcC (K : PySem.W.Frag) (C : Addr) : Prop where
  mkr : PySem.W.excInitIn K C exB "Exception.__new__" = true
  ov : PySem.W.excOver K C exB = true
  hd : PySem.W.hasDictIn K C = true
  kp : PySem.W.keepIn K (.ref C) = true
  sa : PySem.W.findIn K (.ref C) "__setattr__" = some (some (.builtin "object.__setattr__"))
  ga : PySem.W.findIn K (.ref C) "__getattribute__" = some (some (.builtin "BaseException.__getattribute__"))
  gg : PySem.W.findIn K (.ref C) "__getattr__" = some none
  cl : PySem.W.findIn K (.ref C) "__class__" = some (some (.builtin "object.__class__"))
  ex : PySem.W.subIn K (.ref C) (.type "BaseException") = some true
  ty : PySem.W.typeIn K (.ref C) = some (.type "type")
  mo : PySem.W.mroIn K C (.type "object") = some true
  no : ∀ f ∈ fldN, PySem.W.findIn K (.ref C) f = some none
theorem xc_ok {K : PySem.W.Frag} {C : Addr} (h : xcB K C = true) : XcC K C := by
  unfold xcB at h
  simp only [Bool.and_eq_true, decide_eq_true_eq, List.all_eq_true] at h
  obtain ⟨h1, h2, h3, h4, h5, h6, h7, h8, h9, h10, h11, h12⟩ := h
  exact ⟨h1, h2, h3, h4, He.eqO_ok h5, He.eqO_ok h6, He.eqO_ok h7, He.eqO_ok h8, h9, h10, h11, fun f hf => He.eqO_ok (h12 f hf)⟩
/-! ### the stores of an __init__ -/
section
open Builtin Builtin.ObjectAttr PySem.W PySem.Calls PySem.HandSPX
variable {prog : Program} {w : World} {A : Around} {R : Result → Shared → Prop} {hp : Heap} {g : Array GenState} {d : Drawn} {t : Nat} {os : OsState}
theorem put_first {K : W.Frag} {name : Str} {tk : Tok} {v : Value} {x C t0 : Addr} (X : K.In hp) (T : XcC K C) (hx : hp.get? x = some (excO C t0)) (ha : W.findIn K (.ref C) name = some none)
    (hq : ∀ h' tk' dx, (∀ b o, b ≠ x → hp.get? b = some o → h'.get? b = some o) → hp.objs.size ≤ dx → dx ≠ x → h'.get? x = some ({ cls := .ref C, dict := some dx, data := .fields #[.ref t0, .none, .none, .none, .bool false, .none] } : Obj) →
      h'.Ns1 dx (fun y => if y = name then some v else none) → R (.ok (.ret .none)) ⟨h', g, d, tk', os⟩) :
    codeAny (model prog w) A (.call (.builtin "object.__setattr__") ⟨[.ref x, .str name tk, v], []⟩) R ⟨hp, g, d, t, os⟩ := by
  have tk0 : takerIn K C name = some none := by unfold takerIn; rw [ha]; rfl
  refine osa_openX (s := ⟨hp, g, d, t, os⟩) (od := none) F.store_Exception X ⟨hx, rfl, rfl, trivial⟩ T.ov tk0 fun b => ?_
  obtain ⟨cd, hc, hd'⟩ := any_some T.hd
  have hcls : W.Looks (model prog w) hp (classData C) cd := W.looks_clsIn X hc
  have hxs : x ≠ hp.objs.size := Nat.ne_of_lt (Heap.lt_size hx)
  obtain ⟨nm, bs, mro, ns, qn, hd, sn, sb, ab, col, del⟩ := cd
  (try dsimp only at hd')
  subst hd'
  unfold storeInOwnDict ownDictForStores
  repeat (first | with_reducible refine store_in_new ?_ ?_ | with_reducible refine wpAny_loadPart_at hx ?_ | with_reducible refine hcls.at ?_ | wp_step)
  · exact ⟨_, #[], _, (Heap.get?_update_ne _ _ _ _ hxs.symm).trans (Heap.get?_push_at rfl rfl), rfl, fun e he => absurd he (by simp), fun _ => rfl⟩
  · intro h' tk' hn' hs
    have hx1 : (hp.push { cls := .type "dict", data := .dict #[] }).get? x = some (excO C t0) := Heap.get?_push_of_some _ hx
    refine hq h' tk' hp.objs.size (fun b o hb ho => ?_) (Nat.le_refl _) hxs.symm ?_ hn'
    · exact (hs.2 b (Nat.ne_of_lt (Heap.lt_size ho))).trans ((Heap.get?_update_ne _ _ _ _ hb).trans (Heap.get?_push_of_some _ ho))
    · exact (hs.2 x hxs).trans (Heap.get?_update_self _ hx1 rfl)
theorem put_more {K : W.Frag} {name : Str} {tk : Tok} {v : Value} {x C t0 dx : Addr} {m0 : Str → Option Value} {nl : List Str} (X : K.In hp) (T : XcC K C)
    (hx : hp.get? x = some ({ cls := .ref C, dict := some dx, data := .fields #[.ref t0, .none, .none, .none, .bool false, .none] } : Obj)) (ha : W.findIn K (.ref C) name = some none) (hns : hp.Ns1 dx m0) (hw : Within m0 nl) (hz : nl.length ≤ 1000)
    (hq : ∀ h' tk', (∀ b o, b ≠ dx → hp.get? b = some o → h'.get? b = some o) → h'.Ns1 dx (fun y => if y = name then some v else m0 y) → R (.ok (.ret .none)) ⟨h', g, d, tk', os⟩) :
    codeAny (model prog w) A (.call (.builtin "object.__setattr__") ⟨[.ref x, .str name tk, v], []⟩) R ⟨hp, g, d, t, os⟩ := by
  have tk0 : takerIn K C name = some none := by unfold takerIn; rw [ha]; rfl
  obtain ⟨oD, esD, epD, hoD, hdD, _⟩ := hns.count hw
  refine osa_openX (s := ⟨hp, g, d, t, os⟩) (od := some oD) F.store_Exception X ⟨hx, rfl, rfl, hoD⟩ T.ov tk0 fun b => ?_
  obtain ⟨cd, hc, hd'⟩ := any_some T.hd
  have hcls : W.Looks (model prog w) hp (classData C) cd := W.looks_clsIn X hc
  obtain ⟨nm, bs, mro, ns, qn, hd, sn, sb, ab, col, del⟩ := cd
  (try dsimp only at hd')
  subst hd'
  unfold storeInOwnDict ownDictForStores
  repeat (first | with_reducible refine OEX.store_in_old hns hw hz ?_ | with_reducible refine wpAny_loadPart_at hx ?_ | with_reducible refine hcls.at ?_ | wp_step)
  intro h' tk' hn' hs
  exact hq h' tk' (fun b o hb ho => (hs.2 b hb).trans ho) hn'
end
end K00
namespace K00
open PySem PySem.Spec PyProof.Rows L2 Sw
section
variable {X : Cx} {pins : List (Addr × Obj)} {σ : L2.St} {H : Hp} {s : Shared} {a C dx : Addr} {f : Str} {y : V} {u : Value} {fs : List (Str × V)} {Q : Unit → Shared → Prop} {E : Value → Shared → Prop} {A : Around}
/-- self.f = y on an error without fields yet -/
theorem st_first (T : XcC X.K C) (I : Inv X pins σ H s) (e : H a = some (exo a C none)) (hno : PySem.W.findIn X.K (.ref C) f = some none) (ry : RelV y u)
    (h : ∀ dx s', H dx = none → dx ≠ a → Inv X pins σ (upd (upd H dx (exd dx [(f, y)])) a (exo a C (some dx))) s' → Q () s') : wpAny (model X.prog X.w) A (setAttr (.ref a) f u) Q E s := by
  obtain ⟨t0, ho⟩ := exo_at I.hok e
  obtain ⟨hp, g, d, t, os⟩ := s
  refine PySem.W.set_plain I.kIn (ox := PySem.HandSPX.excO C t0) (od := none) ⟨ho, rfl, rfl, trivial⟩ T.sa (put_first I.kIn T ho hno fun h' tk' dx k hfr hne hx hn => ?_)
  have dfree : H dx = none := I.hok.fresh hfr
  have low : ∀ {b : Addr} {o : Obj}, hp.get? b = some o → b ≠ dx := fun {b o} q => Nat.ne_of_lt (Nat.lt_of_lt_of_le (Heap.lt_size q) hfr)
  have off : ∀ {b : Addr}, H b = none → b ≠ a := fun {b} n z => by rw [z, e] at n; cases n
  refine h dx _ dfree hne (I.un (t' := tk') (show Un X.fs [] H (upd (upd H dx (exd dx [(f, y)])) a (exo a C (some dx))) hp h' from
    { keep := fun b o q n _ _ => k b o (off n) q
      slot := fun b o q n _ _ => ⟨o.slots, k b o (off n) q⟩
      free := fun b o q n _ => by rw [upd_ne (off n), upd_ne (low q)]; exact n
      there := fun b o q _ => by
        by_cases hb : b = a
        · subst hb; exact ⟨_, hx⟩
        · exact ⟨o, k b o hb q⟩
      tups := fun b xs q => by rw [upd_ne (at_ne e q exo_tup), upd_ne (ne_of_none q dfree)]; exact q
      frzs := fun b o v q => by rw [upd_ne (at_ne e q exo_frz), upd_ne (ne_of_none q dfree)]; exact q
      tbls := fun b ps q => ⟨#[], by rw [upd_ne (at_ne e q exo_tbl), upd_ne (ne_of_none q dfree), q]; simp⟩ }) fun b o q => ?_)
  by_cases hb : b = a
  · subst hb
    rw [upd_same] at q
    cases q
    exact exo_ok hx
  · rw [upd_ne hb] at q
    by_cases hd : b = dx
    · subst hd
      rw [upd_same] at q
      cases q
      exact exd_ok hn (relO_put (fs := []) ry fun g => True.intro)
    · rw [upd_ne hd] at q
      refine (I.hok b o q).stay (fun c v hc z => k c v ?_ z) (fun c hc => ?_) fun c xs hc => ?_
      · rcases hc with hc | hc
        · rw [hc]; exact hb
        · exact at_ne e hc exo_own
      · rw [upd_ne (at_ne e hc exo_own), upd_ne (ne_of_none hc dfree)]; exact hc
      · rw [upd_ne (at_ne e hc exo_tup), upd_ne (ne_of_none hc dfree)]; exact hc
/-- .. and a further one -/
theorem st_more (T : XcC X.K C) (I : Inv X pins σ H s) (e : H a = some (exo a C (some dx))) (ed : H dx = some (exd dx fs)) (hl : fs.length ≤ 900) (hno : PySem.W.findIn X.K (.ref C) f = some none) (ry : RelV y u)
    (h : ∀ s', Inv X pins σ (upd H dx (exd dx ((f, y) :: fs))) s' → Q () s') : wpAny (model X.prog X.w) A (setAttr (.ref a) f u) Q E s := by
  obtain ⟨t0, ho⟩ := exo_at I.hok e
  obtain ⟨mA, hns, rel⟩ := exd_at I.hok ed
  have hw := within_of rel
  obtain ⟨hp, g, d, t, os⟩ := s
  obtain ⟨oD, _, _, hoD, _, _⟩ := hns.count hw
  refine PySem.W.set_plain I.kIn (ox := { cls := .ref C, dict := some dx, data := .fields #[.ref t0, .none, .none, .none, .bool false, .none] }) (od := some oD) ⟨ho, rfl, rfl, hoD⟩ T.sa
    (put_more I.kIn T ho hno hns hw (by rw [List.length_map]; omega) fun h' tk' k hn => ?_)
  have hd : ∃ o, h'.get? dx = some o := let ⟨o, _, _, e', _⟩ := hn; ⟨o, e'⟩
  exact h _ (I.write (t' := tk') (x := dx) (e := dx) (o := exd dx ((f, y) :: fs)) (by rw [ed]; exact True.intro) (.inl rfl) k hd (exd_ok hn (relO_put ry rel)))
end
/-- self.f = e in an __init__ of an error -/
def tXst (K : PySem.W.Frag) (f : Str) (to te : TE) : TS := fun D σ H => te σ H fun y H1 => to σ H1 fun x H2 => ∃ a C : Addr, x = .ref a ∧ XcC K C ∧ f ∈ fldN ∧
  ((H2 a = some (exo a C none) ∧ ∀ dx, H2 dx = none → dx ≠ a → D.nx σ (upd (upd H2 dx (exd dx [(f, y)])) a (exo a C (some dx)))) ∨
    ∃ (dx : Addr) (fs : List (Str × V)), H2 a = some (exo a C (some dx)) ∧ H2 dx = some (exd dx fs) ∧ fs.length ≤ 900 ∧ D.nx σ (upd H2 dx (exd dx ((f, y) :: fs))))
theorem ps_xst {X : Cx} {o e : Expr} {to te : TE} {f : Str} {p' pos : Pos} (ho : PE X o to) (he : PE X e te) (hs : swapsWith e (some (.Attribute o f p')) pos.line X.env = pure false := by rfl) : PS X (.Assign [.Attribute o f p'] e pos) (tXst X.K f to te) := by
  refine ⟨fun pins s σ H D I h => ?_⟩
  refine plainObj_wpAny_Assign_Attribute (thn (he.run pins s σ H _ I h) fun v s1 ⟨y, H1, I1, r1, q1⟩ => thn (ho.run pins s1 σ H1 _ I1 q1) fun u s2 ⟨x, H2, I2, r2, a, C, ex, T, hf, q⟩ => ?_) hs
  subst ex
  obtain rfl : u = Value.ref a := r2
  rcases q with ⟨ea, q⟩ | ⟨dx, fs, ea, ed, hl, q⟩
  · exact st_first T I2 ea (T.no f hf) r1 fun dx s' n ne J => ⟨σ, _, J, q dx n ne⟩
  · exact st_more T I2 ea ed hl (T.no f hf) r1 fun s' J => ⟨σ, _, J, q⟩
end K00
namespace PySem
namespace SwX
open PySem.W PySem.Calls PyProof.Rows PySem.HandSPX
/-! ### an own error made by keywords alone: the base's __new__ does not look at them -/
section
variable {M : Model} {A : Around} {E : Value → Shared → Prop} {h : Heap} {g : Array GenState} {d : Drawn} {t : Nat} {os : OsState} {kw : List (Str × Value)}
variable {nm q : Str} {C N : Addr} {bs bm bmB : List Value} {hdct : Bool} {sn : List Str} {sub : List Value} {ab : Bool} {col : Option Bool} {dd : Option Addr} {k0 k1 k2 k3 k5 : Option Value} {B newId initId : String}
theorem check_kw (F : ExcBaseFacts B newId initId bmB) (hT : ∀ X : String, bm.contains (.type X) = bmB.contains (.type X)) {Q : Unit → Shared → Prop}
    (hC : h.get? C = some (excClassObj nm q C N bs bm hdct sn sub ab col dd k0 k1 k2 k3 k5 newId)) (hq : Q () ⟨h, g, d, t, os⟩) : wpAny M A (checkBuiltinCall newId ⟨[.ref C], kw⟩) Q E ⟨h, g, d, t, os⟩ := by
  have c1 : (Value.ref C :: bm).contains (.type B) = true := by rw [List.contains_cons, hT, F.hasB, Bool.or_true]
  have c2 := F.noStar
  simp only [checkBuiltinCall, F.newKind, F.newSplit, F.newRow]
  repeat (first | refine wpAny_loadPart_at hC ?_ | (refine wpAny_isSubtype_exc hC ?_; rw [c1]) | refine wpAny_staticBase_exc hC ?_ | refine wpAny_madeBy_exc hC ?_ | simp only [bne_self_eq_false, Bool.false_eq_true, if_false] | wp_step)
  all_goals first | exact hq | trace_state
end
section
variable {prog : Program} {w : World} {A : Around} {E : Value → Shared → Prop} {R : Result → Shared → Prop} {h : Heap} {g : Array GenState} {d : Drawn} {t : Nat} {os : OsState} {kw : List (Str × Value)}
variable {nm q : Str} {C N : Addr} {bs bm bmB : List Value} {hdct : Bool} {sn : List Str} {sub : List Value} {ab : Bool} {col : Option Bool} {dd : Option Addr} {k0 k1 k2 k3 k5 : Option Value} {B newId initId : String}
theorem new_kw (F : ExcBaseFacts B newId initId bmB) (hT : ∀ X : String, bm.contains (.type X) = bmB.contains (.type X))
    (hC : h.get? C = some (excClassObj nm q C N bs bm hdct sn sub ab col dd k0 k1 k2 k3 k5 newId))
    (hq : R (.ok (.ret (.ref (h.objs.size + 1)))) ⟨(h.push (W.kdv_tup [])).push (excO C h.objs.size), g, d, t, os⟩) :
    codeAny (model prog w) A (.builtin newId ⟨[.ref C], kw⟩) R ⟨h, g, d, t, os⟩ := by
  have c0 := F.ends
  have c1 : (Value.ref C :: bm).contains (.type B) = true := by rw [List.contains_cons, hT, F.hasB, Bool.or_true]
  have c2 : (Value.ref C :: bm).contains (.type "AttributeError") = false := by rw [List.contains_cons, hT, F.noAttr]; rfl
  have c3 : (Value.ref C :: bm).contains (.type "NameError") = false := by rw [List.contains_cons, hT, F.noName]; rfl
  refine codeAny_builtinAt F.entry ?_
  unfold Builtin.«BaseException.__new__»
  refine wpAt_bind ?_
  show wpAt _ _ _ (stack >>= _) _ _ _
  refine wpAt_bind (wpAt_stack fun p below => wpAt_of_wpAny ?_)
  wp_walk
  refine wpAt_of_wpAny ?_
  rw [F.owner]
  repeat (first | with_reducible refine wpAny_madeHere_exc F.canon hC ?_ | with_reducible refine wpAny_loadPart_at hC ?_ | (with_reducible refine wpAny_isSubtype_exc hC ?_; first | rw [c1] | rw [c2] | rw [c3]) | wp_step)
  all_goals first
    | exact Nat.zero_le _
    | (show R _ _; rw [Heap.size_push]; exact hq)
theorem type_kw (F : ExcBaseFacts B newId initId bmB) (hT : ∀ X : String, bm.contains (.type X) = bmB.contains (.type X)) {fI : Addr} {Q : Fin → Shared → Prop}
    (hC : h.get? C = some (excClassObj nm q C N bs bm hdct sn sub ab col dd k0 k1 k2 k3 k5 newId))
    (hi : W.Looks (model prog w) h (typeLookup (.ref C) "__init__") (some (.ref fI))) (hb : ∀ self, W.Looks (model prog w) h (bindSpecial (.ref fI) self) (.ref fI, [self]))
    (hq : codeAny (model prog w) A (.call (.ref fI) ⟨[.ref (h.objs.size + 1)], kw⟩)
      (fun r s' => match r with | .ok (.ret v) => v = .none ∧ Q (.done (.ret (.ref (h.objs.size + 1)))) s' | .ok _ => False | .error e => E e s')
      ⟨(h.push (W.kdv_tup [])).push (excO C h.objs.size), g, d, t, os⟩) :
    wpAny (model prog w) A (Builtin.«type.__call__» ⟨[.ref C], kw⟩) Q E ⟨h, g, d, t, os⟩ := by
  repeat (first | with_reducible refine wpAny_loadPart_at hC ?_ | with_reducible refine wpAny_madeBy_exc hC ?_ | wp_step)
  refine codeAny_call_builtin_code (Code.quiet_builtin _ F.quiet) (check_kw F hT hC ?_)
  refine new_kw F hT hC ?_
  show wpAny _ _ _ _ _ _
  have k : ∀ b o, h.get? b = some o → ((h.push (W.kdv_tup [])).push (excO C h.objs.size)).get? b = some o := fun b o e => Heap.get?_push_of_some _ (Heap.get?_push_of_some _ e)
  have hC2 := k _ _ hC
  have hget : ((h.push (W.kdv_tup [])).push (excO C h.objs.size)).get? (h.objs.size + 1) = some (excO C h.objs.size) := by heap_get
  have hcC : (Value.ref C :: bm).contains (.ref C) = true := by simp
  have i1 := hi.keeps k
  have b1 := (hb (.ref (h.objs.size + 1))).keeps k
  unfold isInstance
  repeat (first | with_reducible refine wpAny_loadPart_at hget ?_ | (with_reducible refine wpAny_isSubtype_exc hC2 ?_; rw [hcC]) | wp_step)
  show wpAny _ _ (typeLookup (.ref C) _) _ _ _
  refine i1.at ?_
  refine wpAny_holding (wpAny_bind (b1.at ?_))
  refine wpAny_bind (wpAny_call (codeAny_mono hq fun r s' z => ?_))
  rcases r with e | (v | _ | _ | _) <;> first | exact z | exact z.elim | skip
  obtain ⟨rfl, z⟩ := z
  first
    | exact wpAny_pure (wpAny_pure z)
    | (wp_walk; exact z)
theorem call_kw (F : ExcBaseFacts B newId initId bmB) (hT : ∀ X : String, bm.contains (.type X) = bmB.contains (.type X)) {fI : Addr}
    (hC : h.get? C = some (excClassObj nm q C N bs bm hdct sn sub ab col dd k0 k1 k2 k3 k5 newId))
    (hi : W.Looks (model prog w) h (typeLookup (.ref C) "__init__") (some (.ref fI))) (hb : ∀ self, W.Looks (model prog w) h (bindSpecial (.ref fI) self) (.ref fI, [self]))
    (hq : codeAny (model prog w) (A.under (.builtin "type.__call__" ⟨[.ref C], kw⟩)) (.call (.ref fI) ⟨[.ref (h.objs.size + 1)], kw⟩) (W.InitBack (h.objs.size + 1) R)
      ⟨(h.push (W.kdv_tup [])).push (excO C h.objs.size), g, d, t, os⟩) :
    codeAny (model prog w) A (.call (.ref C) ⟨[], kw⟩) R ⟨h, g, d, t, os⟩ := by
  have f1 := tc_lookup
  have f2 := tc_bind (.ref C)
  have hTy : (⟨h, g, d, t, os⟩ : Shared).TypeIs (.ref C) "type" := ⟨_, hC, rfl⟩
  refine codeAny_of_tree ?_
  show wpAny _ _ (callAny (.ref C) _) _ _ _
  repeat (any_goals (first | assumption | with_reducible refine wpAny_loadPart_at hC ?_ | wp_step))
  refine ⟨rfl, ?_⟩
  refine codeAny_call_builtin_at (Code.quiet_builtin _ (by decide +kernel)) entry_typeCall (wpAny_check_type_call_sub hC (type_kw F hT hC hi hb ?_))
  refine codeAny_mono hq fun r s' z => ?_
  rcases r with e | (v | _ | _ | _) <;> exact z
end
end SwX
end PySem
namespace K00
open PySem PySem.Spec PyProof.Rows L2 Sw
theorem fn_bind {K : PySem.W.Frag} {h : Heap} {fI : Addr} {M : Model} (X : K.In h) (hf : PySem.W.isFn K (.ref fI) = true) (self : Value) : PySem.W.Looks M h (bindSpecial (.ref fI) self) (.ref fI, [self]) := by
  obtain ⟨o, ho, hc⟩ := Option.map_eq_some_iff.mp (show (K.lookup fI).map (·.cls) = some (.type "function") from beq_iff_eq.mp hf)
  exact PySem.W.exc_bind (X _ _ ho) hc self
section
variable {X : Cx} {k : Nat} {C fI : Addr} {fd : FuncData} {ps ks : List Str} {sp : Sp} {x : Str} {p pos : Pos} {e : Expr} {es : List Expr} {kws : List Keyword} {ta tk : TA} {g : List Value → List Value → List Value} {gV : List V → List V → List V}
/-- C(e, ..), an own error with its own __init__, as a value -/
theorem pe_xmk (T : XcC X.K C) (hi : PySem.W.findIn X.K (.ref C) "__init__" = some (some (.ref fI))) (hf : PySem.W.isFn X.K (.ref fI) = true) (F1 : FnOk X.prog X.w X.K X.mg X.base CX0 k fI fd ps sp) (hr : Room (k + 1) X.A) (hb : Binds X.K fd ps []) (hg : Gl X x) (hm : X.mg x = some (.ref C))
    (ha : PA X (e :: es) ta) (hdb : (x == ("__debug__" : Str)) = false := by decide) (he : starEach (e :: es) X.env = (false, eval e X.env) :: starEach es X.env := by rfl) (hpl : (backTo pos (starEach es X.env)).any (·.1) = false := by rfl) :
    PE X (.Call (.Name x p) (e :: es) [] pos) (fun σ H Q => ta σ H fun vs H1 => vs.length ≤ 1000 ∧ ∀ a, H1 a = none → sp (.ref a :: vs) (upd H1 a (exo a C none)) (fun v H2 => v = .non ∧ Q (.ref a) H2) E0) := by
  refine ⟨fun pins s σ H Q I h => ?_⟩
  refine wpAny_Call_Name_kw (ld_glob I hg hm ?_ hdb)
  refine PySem.W.callWith_K (h₀ := X.base) I.ok.mod.kin T.kp (thn (ha.run pos pins s σ H _ I h) fun us s1 ⟨vs, H1, I1, r1, hz, q1⟩ => ⟨I1.kIn, ?_⟩) he hpl
  show wpAny _ _ (call (.ref C) us) _ _ _
  obtain ⟨nm, N, q, bs, bm, hd, sn, sub, ab, col, dd, k0, k1, k2, k3, k5, hC, hT⟩ := PySem.W.excInit_of I1.kIn T.mkr
  obtain ⟨hp, g, dr, tk, os⟩ := s1
  have hsz : hp.objs.size ≤ hp.objs.size + 1 := Nat.le_succ _
  have hn : H1 (hp.objs.size + 1) = none := I1.hok.fresh hsz
  have kk : ∀ b o, hp.get? b = some o → ((hp.push (PySem.W.kdv_tup us)).push (PySem.HandSPX.excO C hp.objs.size)).get? b = some o := fun b o e => Heap.get?_push_of_some _ (Heap.get?_push_of_some _ e)
  have hget : ((hp.push (PySem.W.kdv_tup us)).push (PySem.HandSPX.excO C hp.objs.size)).get? (hp.objs.size + 1) = some (PySem.HandSPX.excO C hp.objs.size) := by heap_get
  have J := I1.laid (t' := tk) (a := hp.objs.size + 1) (o := exo (hp.objs.size + 1) C none) (h' := (hp.push (PySem.W.kdv_tup us)).push (PySem.HandSPX.excO C hp.objs.size)) kk hsz (exo_ok hget)
  have hq := q1 (hp.objs.size + 1) hn
  have r2 : Vals (V.ref (hp.objs.size + 1) :: vs) (Value.ref (hp.objs.size + 1) :: us) := .cons rfl r1
  have hl : (Value.ref (hp.objs.size + 1) :: us ++ []).length = ps.length := by
    have e := r2.length
    rw [F1.len _ _ _ _ hq] at e
    rw [List.append_nil]; exact e.symm
  have hus : us.length ≤ sizeLine := by
    have := line_big
    rw [← Paired.length r1]; omega
  have hbt := hb _ (Value.ref (hp.objs.size + 1) :: us) J.kIn hl
  rw [List.append_nil] at hbt
  refine wpAny_call (PySem.HandSPX.call_own F.excBase_Exception hT hC (PySem.W.looks_findIn I1.kIn hi) (fun self => fn_bind I1.kIn hf self) hus
    (codeAny_mono (F1.run _ X.stack _ _ ⟨Value.ref (hp.objs.size + 1) :: us, []⟩ (Value.ref (hp.objs.size + 1) :: us) _ _ _ (hr.make C us []) (J.env0.make C us []) hbt r2 hq) fun r s' hz' => ?_))
  cases r with
  | error er => exact False.elim hz'
  | ok fl =>
    cases fl with
    | ret u =>
      obtain ⟨v, H2, J2, rv, ev, q2⟩ := J.after hz'
      subst ev
      exact ⟨rv, .ref (hp.objs.size + 1), H2, J2, rfl, q2⟩
    | next => exact False.elim hz'
    | brk => exact False.elim hz'
    | cont => exact False.elim hz'
/-- C(k = e, ..) -/
theorem pe_xmkK (T : XcC X.K C) (hi : PySem.W.findIn X.K (.ref C) "__init__" = some (some (.ref fI))) (hf : PySem.W.isFn X.K (.ref fI) = true) (F1 : FnOk X.prog X.w X.K X.mg X.base CX0 k fI fd ps sp) (hr : Room (k + 1) X.A) (hb : KBn X.K fd ps 1 ks g gV) (hg : Gl X x) (hm : X.mg x = some (.ref C))
    (hkw : PK X kws tk) (hdb : (x == ("__debug__" : Str)) = false := by decide) (hall : (backToKw pos (keywordEach kws X.env)).all (·.1.isSome) = true := by rfl) (hks : (backToKw pos (keywordEach kws X.env)).filterMap (·.1) = ks := by rfl)
    (hp : ((backTo pos (starEach [] X.env)).any (·.1) || (backToKw pos (keywordEach kws X.env)).any (·.1.isNone)) = false := by rfl) :
    PE X (.Call (.Name x p) [] kws pos) (fun σ H Q => tk σ H fun zs H1 => zs.length = ks.length ∧ ∀ a, H1 a = none → sp (gV [.ref a] zs) (upd H1 a (exo a C none)) (fun v H2 => v = .non ∧ Q (.ref a) H2) E0) := by
  refine ⟨fun pins s σ H Q I h => ?_⟩
  refine wpAny_Call_Name_kw (ld_glob I hg hm ?_ hdb)
  refine PySem.W.callWith_KW0 (h₀ := X.base) I.ok.mod.kin T.kp hall ?_ hp
  refine thn (hkw.run pos pins s σ H _ I h) fun ws s1 ⟨zs, H1, I1, rz, lz, q1⟩ => ⟨I1.kIn, ?_⟩
  rw [hks]
  show wpAny _ _ (call (.ref C) [] (ks.zip ws)) _ _ _
  obtain ⟨nm, N, q, bs, bm, hd, sn, sub, ab, col, dd, k0, k1, k2, k3, k5, hC, hT⟩ := PySem.W.excInit_of I1.kIn T.mkr
  obtain ⟨hh, g0, dr, tk0, os⟩ := s1
  have hsz : hh.objs.size ≤ hh.objs.size + 1 := Nat.le_succ _
  have hn : H1 (hh.objs.size + 1) = none := I1.hok.fresh hsz
  have kk : ∀ b o, hh.get? b = some o → ((hh.push (PySem.W.kdv_tup [])).push (PySem.HandSPX.excO C hh.objs.size)).get? b = some o := fun b o e => Heap.get?_push_of_some _ (Heap.get?_push_of_some _ e)
  have hget : ((hh.push (PySem.W.kdv_tup [])).push (PySem.HandSPX.excO C hh.objs.size)).get? (hh.objs.size + 1) = some (PySem.HandSPX.excO C hh.objs.size) := by heap_get
  have J := I1.laid (t' := tk0) (a := hh.objs.size + 1) (o := exo (hh.objs.size + 1) C none) (h' := (hh.push (PySem.W.kdv_tup [])).push (PySem.HandSPX.excO C hh.objs.size)) kk hsz (exo_ok hget)
  have hq := q1 (hh.objs.size + 1) hn
  have r1 : Vals [V.ref (hh.objs.size + 1)] [Value.ref (hh.objs.size + 1)] := .cons rfl .nil
  refine wpAny_call (PySem.SwX.call_kw F.excBase_Exception hT hC (PySem.W.looks_findIn I1.kIn hi) (fun self => fn_bind I1.kIn hf self)
    (codeAny_mono (F1.run _ X.stack _ _ ⟨[Value.ref (hh.objs.size + 1)], ks.zip ws⟩ (g [Value.ref (hh.objs.size + 1)] ws) _ _ _ (hr.make C [] (ks.zip ws)) (J.env0.make C [] (ks.zip ws)) (hb.to _ [Value.ref (hh.objs.size + 1)] ws J.kIn rfl (rz.length.symm.trans lz)) (hb.rel r1 rz) hq) fun r s' hz' => ?_))
  cases r with
  | error er => exact False.elim hz'
  | ok fl =>
    cases fl with
    | ret u =>
      obtain ⟨v, H2, J2, rv, ev, q2⟩ := J.after hz'
      subst ev
      exact ⟨rv, .ref (hh.objs.size + 1), H2, J2, rfl, q2⟩
    | next => exact False.elim hz'
    | brk => exact False.elim hz'
    | cont => exact False.elim hz'
/-- C(), an own error without own __init__, as a value -/
theorem pe_xmk0 (qx : PySem.W.excIn X.K C exB "Exception.__new__" = true) (kC : PySem.W.keepIn X.K (.ref C) = true) (hg : Gl X x) (hm : X.mg x = some (.ref C)) (hdb : (x == ("__debug__" : Str)) = false := by decide) :
    PE X (.Call (.Name x p) [] [] pos) (fun _ H Q => ∀ a, H a = none → Q (.ref a) (upd H a (ExO (.ref C) a))) := by
  refine ⟨fun pins s σ H Q I h => ?_⟩
  refine wpAny_Call_Name_kw (ld_glob I hg hm ?_ hdb)
  refine PySem.W.callWith_K0 I.kIn kC ?_
  show wpAny _ _ (call (.ref C) []) _ _ _
  obtain ⟨bm, N, nm, qn, bs, hdct, sn, sub, ab, col, dd, k0, k1, k2, k3, k5, mN, hC, hN, hni, T⟩ := exc_obj I.kIn qx
  refine wpAny_call_exc_subT F.excBase_Exception T hC hN hni (fun h' a hm => ?_) (Nat.zero_le _)
  have hn : H a = none := I.hok.gone hm.new
  obtain ⟨t, ht, _, _⟩ := hm.there
  exact ⟨.ref a, upd H a (ExO (.ref C) a), I.laidN hm.keeps hm.new hn (exO_ok ht ⟨rfl, rfl⟩ rfl rfl rfl (show 4 < 6 by decide)), rfl, h a hn⟩
end
end K00
namespace K00
open PySem PySem.Spec PyProof.Rows L2 Sw
/-- an object that stands just so (a caught error) -/
def xat (a : Addr) (o : Obj) : HO := .ext fun h => h.get? a = some o
/-- an error of the class at C stands at a: with fields; without any; a caught one -/
inductive Xo (H : Hp) (a C : Addr) : Prop
  | fld {d : Addr} {fs : List (Str × V)} (h1 : H a = some (exo a C (some d))) (h2 : H d = some (exd d fs))
  | bare (h : H a = some (ExO (.ref C) a))
  | held {o : Obj} {d : Addr} {fs : List (Str × V)} {vs : Array Value} (h1 : H a = some (xat a o)) (hz : Zc (.ref C) (some d) o) (hf : o.data = .fields vs) (h2 : H d = some (.xd fs))
  | held0 {o : Obj} {vs : Array Value} (h1 : H a = some (xat a o)) (hz : Zc (.ref C) none o) (hf : o.data = .fields vs)
theorem Xo.same {H H' : Hp} {a C : Addr} (x : Xo H a C) (s : Same H H') : Xo H' a C := by
  cases x with
  | fld h1 h2 => exact .fld (s _ _ h1) (s _ _ h2)
  | bare h => exact .bare (s _ _ h)
  | held h1 hz hf h2 => exact .held (s _ _ h1) hz hf (s _ _ h2)
  | held0 h1 hz hf => exact .held0 (s _ _ h1) hz hf
theorem ns1_there {h : Heap} {d : Addr} {m : Str → Option Value} (n : h.Ns1 d m) : ∃ o, h.get? d = some o := let ⟨o, _, _, e, _⟩ := n; ⟨o, e⟩
theorem Xo.inst {X : Cx} {pins : List (Addr × Obj)} {σ : L2.St} {H : Hp} {s : Shared} {a C : Addr} (I : Inv X pins σ H s) (x : Xo H a C) : ∃ ox od, PySem.W.InstAt s.heap a ox C od := by
  cases x with
  | @fld d fs h1 h2 =>
    obtain ⟨t, ho⟩ := exo_at I.hok h1
    obtain ⟨m, hn, _⟩ := exd_at I.hok h2
    obtain ⟨od, hd⟩ := ns1_there hn
    exact ⟨_, some od, ho, rfl, rfl, hd⟩
  | bare h =>
    obtain ⟨⟨oe, vs, ho, hz, hd, _⟩, _⟩ := (show ObjOk X.prog X.w H s.heap a (ExO (.ref C) a) from I.hok a _ h)
    obtain ⟨oc, od, oda, osl⟩ := oe
    obtain ⟨z1, z2⟩ := hz
    dsimp only at z1 z2 hd
    subst z1 z2 hd
    exact ⟨_, none, ho, rfl, rfl, trivial⟩
  | @held o d fs vs h1 hz hf h2 =>
    obtain ⟨ho, _⟩ := (show ObjOk X.prog X.w H s.heap a (xat a o) from I.hok a _ h1)
    obtain ⟨m, hn, _⟩ := (show ObjOk X.prog X.w H s.heap d (.xd fs) from I.hok d _ h2)
    obtain ⟨od, hd⟩ := ns1_there hn
    refine ⟨o, some od, ho, hz.1, by unfold PySem.W.notCls; rw [hf] <;> rfl, ?_⟩
    rw [hz.2]; exact hd
  | @held0 o vs h1 hz hf =>
    obtain ⟨ho, _⟩ := (show ObjOk X.prog X.w H s.heap a (xat a o) from I.hok a _ h1)
    refine ⟨o, none, ho, hz.1, by unfold PySem.W.notCls; rw [hf] <;> rfl, ?_⟩
    rw [hz.2]; trivial
structure XcG (K : PySem.W.Frag) : Prop where
  g : PySem.W.specialIn K (.builtin "object.__class__") "__get__" = some (some (.builtin "getset_descriptor.__get__"))
  t : PySem.W.takesIn K (.builtin "object.__class__") = some true
section
variable {X : Cx}
/-- isinstance(e, c) -/
def rXis (K : PySem.W.Frag) : List V → Hp → VK → Prop := fun xs H Q => ∃ (a C : Addr) (c : V) (u : Value) (b : Bool), xs = [.ref a, c] ∧ Xo H a C ∧ XcC K C ∧ ClsV c u ∧ PySem.W.kitOne K (.ref C) u = some b ∧ Q (.bl b) H
theorem call_xis (G : XcG X.K) : CallR X (.builtin "isinstance") (rXis X.K) := by
  intro pins s σ H xs us Q I r h
  obtain ⟨a, C, c, u, b, rfl, xo, T, k, e, q⟩ := h
  obtain ⟨u1, u2, rfl, r1, r2⟩ := vals2 r
  cases (show u1 = Value.ref a from r1)
  have e2 := k.eq r2
  subst e2
  obtain ⟨ox, od, J⟩ := xo.inst I
  have hcl : (PySem.W.clsIn X.K C).isSome = true := by
    obtain ⟨cd, hc, _⟩ := PySem.W.any_some T.hd
    rw [hc]; rfl
  exact PySem.W.kia_one (PySem.W.kitx_exc hcl T.ga T.gg T.ex T.cl G.g G.t T.mo) I.kIn J e (fun z => nomatch z) fun tk => ⟨.bl b, H, I.tok tk, rfl, q⟩
/-- e.n -/
theorem pe_xat {e : Expr} {te : TE} {pos : Pos} {n : Str} (he : PE X e te) (hb : attributeBase e n X.env (eval e X.env) = eval e X.env := by rfl) :
    PE X (.Attribute e n pos) (fun σ H Q => te σ H fun x H1 => ∃ (a C d : Addr) (fs : List (Str × V)) (v : V), x = .ref a ∧ XcC X.K C ∧ H1 a = some (exo a C (some d)) ∧ H1 d = some (exd d fs) ∧ n ∈ fldN ∧ fs.lookup n = some v ∧ Q v H1) := by
  refine ⟨fun pins s σ H Q I h => ?_⟩
  refine attr_of hb (thn (he.run pins s σ H _ I h) fun u s1 hh => ?_)
  obtain ⟨x, H1, I1, rx, a, C, d, fs, v, ex, T, h1, h2, hn, l, q⟩ := hh
  subst ex
  obtain rfl : u = Value.ref a := rx
  obtain ⟨t, ho⟩ := exo_at I1.hok h1
  obtain ⟨mA, hns, hr⟩ := exd_at I1.hok h2
  obtain ⟨od, hod, hl⟩ := lookIn_ns hns
  obtain ⟨u, hu, ru⟩ := RelO.some_of (v := v) (o := mA n) (by rw [← l]; exact hr n)
  have J : PySem.W.InstAt s1.heap a _ C (some od) := ⟨ho, rfl, rfl, hod⟩
  exact PySem.HandSPX.exc_get I1.kIn J T.ga T.gg T.ex (PySem.W.findObj_own T.hd (T.no n hn) rfl (by rw [hl, hu])) (handed_of ru) ⟨v, H1, I1.tok _, ru, q⟩
end
end K00
namespace K00
open PySem PySem.Spec PyProof.Rows L2 Sw
/-- a value that a list of which repr is asked may hold: data, {} or {"a": 1} -/
inductive Lf (K : PySem.W.Frag) (H : Hp) : V → PyData → Prop
  | data {x : V} {d : PyData} (h : Dp K H x d) : Lf K H x d
  | dk0 {a : Addr} (h : H a = some (.dK [])) : Lf K H (.ref a) (.dict [])
  | dk1 {a : Addr} (h : H a = some (.dK [(.inr "a", .int 1)])) : Lf K H (.ref a) (.dict [(.str "a", .int 1)])
theorem Lf.same {K : PySem.W.Frag} {H H' : Hp} {x : V} {d : PyData} (h : Lf K H x d) (e : Same H H') : Lf K H' x d := by
  cases h with
  | data h => exact .data (dp_same e _ _ h)
  | dk0 h => exact .dk0 (e _ _ h)
  | dk1 h => exact .dk1 (e _ _ h)
theorem Lf.reads {X : Cx} {pins : List (Addr × Obj)} {σ : L2.St} {H : Hp} {s : Shared} (I : Inv X pins σ H s) {x : V} {d : PyData} {u : Value} (h : Lf X.K H x d) (r : RelV x u) : ∃ as, Reads s.heap u d as ∧ (d.hasDict = true → sysModules ∉ as) := by
  cases h with
  | data h =>
    obtain ⟨as, q⟩ := Dp.reads I d x u h r
    exact ⟨as, q, fun z => by rw [nodict d x h] at z; cases z⟩
  | @dk0 a h =>
    cases r
    obtain ⟨_, hsm, vs, kv, o, es, ep, ho, hex, hd, _, he, _⟩ := I.hok a _ h
    cases kv
    have he' : es.toList = [] := by
      generalize es.toList = l at he ⊢
      cases he
      rfl
    refine ⟨a :: [] ++ [], Reads.dict (kvs := []) ho hex.1 hd (by rw [he']; exact .nil) (by rw [he']; exact .nil), fun _ hm => ?_⟩
    have : sysModules = a := by simpa using hm
    rw [this] at hsm
    simp at hsm
  | @dk1 a h =>
    cases r
    obtain ⟨_, hsm, vs, kv, o, es, ep, ho, hex, hd, _, he, _⟩ := I.hok a _ h
    cases kv with
    | @cons _ q _ _ k1 kt =>
      cases kt
      obtain ⟨qk, qv⟩ := q
      obtain ⟨e1, e2⟩ := k1
      dsimp only at e1 e2
      subst e1
      obtain ⟨t1, rfl⟩ := e2
      obtain ⟨en, hen, hkey, hval⟩ : ∃ en : DictEntry, es.toList = [en] ∧ (∃ t, en.key = .str "a" t) ∧ en.val = .int 1 t1 := by
        generalize es.toList = l at he ⊢
        cases he with
        | cons k1 k2 k3 =>
          cases k3
          refine ⟨_, rfl, ?_, k2⟩
          rcases keyIs_shape (show keyIs (.inr ("a" : Str)) _ = true from k1) with ⟨i, t, e, _⟩ | ⟨x, t, e, ev⟩
          · cases e
          · cases e; exact ⟨t, ev⟩
      obtain ⟨t2, hkey⟩ := hkey
      refine ⟨a :: ([] ++ []) ++ ([] ++ []), Reads.dict (kvs := [(.str "a", .int 1)]) ho hex.1 hd ?_ ?_, fun _ hm => ?_⟩
      · rw [hen]; simp only [List.map_cons, List.map_nil]; rw [hkey]; exact .cons (.str _ _) .nil
      · rw [hen]; simp only [List.map_cons, List.map_nil]; rw [hval]; exact .cons (.int _ _) .nil
      · have : sysModules = a := by simpa using hm
        rw [this] at hsm
        simp at hsm
/-! ### repr of a list of such values -/
theorem atMost_mono {h : Heap} {n m : Nat} {bs : List Addr} (x : ReadAtMost h n bs) (e : n ≤ m) : ReadAtMost h m bs := fun b hb =>
  let ⟨d, as, r, hd⟩ := x b hb
  ⟨d, as, r, Nat.le_trans hd e⟩
inductive LfA (K : PySem.W.Frag) (H : Hp) : List V → List PyData → Prop
  | nil : LfA K H [] []
  | cons {x : V} {xs : List V} {d : PyData} {ds : List PyData} : Lf K H x d → LfA K H xs ds → LfA K H (x :: xs) (d :: ds)
theorem LfA.same {K : PySem.W.Frag} {H H' : Hp} : ∀ {xs : List V} {ds : List PyData}, LfA K H xs ds → Same H H' → LfA K H' xs ds
  | _, _, .nil, _ => .nil
  | _, _, .cons h t, e => .cons (h.same e) (t.same e)
theorem LfA.parts {X : Cx} {pins : List (Addr × Obj)} {σ : L2.St} {H : Hp} {s : Shared} (I : Inv X pins σ H s) : ∀ {xs : List V} {ds : List PyData} {us : List Value}, LfA X.K H xs ds → Vals xs us → PyData.showableAll ds = true → (∀ t ∈ PyData.shownAll ds, t.length ≤ sizeLine) →
    ∃ as bs, ReadsAll s.heap us ds as ∧ ReadAtMost s.heap (PyData.depthAll ds) bs ∧ ReprAllK X.prog X.w bs s.heap (PyData.depthAll ds) us (PyData.shownAll ds)
  | _, _, _, .nil, r, _, _ => by
    cases r
    exact ⟨[], [], .nil, (fun _ z => nomatch z), by simp only [PyData.shownAll]; exact .nil⟩
  | _, _, _, .cons (d := d) (ds := ds) h t, r, hs, hz => by
    cases r with
    | cons r1 r2 =>
      have hs2 : d.showable = true ∧ PyData.showableAll ds = true := by simpa [PyData.showableAll] using hs
      obtain ⟨as1, q1, q2⟩ := h.reads I r1
      obtain ⟨b1, hb1, k1⟩ := ReprK.of_reads (prog := X.prog) (w := X.w) q1 hs2.1 q2 (hz _ (by simp only [PyData.shownAll]; exact List.mem_cons_self ..))
      obtain ⟨as2, b2, q3, hb2, k2⟩ := LfA.parts I t r2 hs2.2 fun t ht => hz t (by simp only [PyData.shownAll]; exact List.mem_cons_of_mem _ ht)
      refine ⟨as1 ++ as2, b1 ++ b2, .cons q1 q3, fun b hm => ?_, ?_⟩
      · simp only [PyData.depthAll]
        rcases List.mem_append.mp hm with hm | hm
        · exact atMost_mono hb1 (Nat.le_max_left _ _) b hm
        · exact atMost_mono hb2 (Nat.le_max_right _ _) b hm
      · simp only [PyData.depthAll, PyData.shownAll]
        exact .cons ((k1.more fun b hb => List.mem_append_left _ hb).level_le (Nat.le_max_left _ _)) (k2.more_le (fun b hb => List.mem_append_right _ hb) (Nat.le_max_right _ _))
theorem call_reprL {X : Cx} (hG : X.A.guards = some []) (hu : X.A.units + 64 < cLine) : CallR X (.builtin "repr") (fun xs H Q => ∃ a vs ds, xs = [.ref a] ∧ SqL X.K H a vs ∧ LfA X.K H vs ds ∧ PyData.showableAll ds = true ∧ PyData.depthAll ds ≤ 50 ∧ (PyData.shown (.list ds)).length ≤ sizeLine ∧ Q (.str (PyData.shown (.list ds))) H) := by
  intro pins s σ H xs us Q I r h
  obtain ⟨a, vs, ds, rfl, hx, hl, hs, hd, hz, q⟩ := h
  cases r with
  | cons r1 rt =>
    cases rt
    cases r1
    obtain ⟨its, rv, ⟨o, n, ho, hc, _, hda⟩, _⟩ := I.list hx
    have hz' : (listText (PyData.shownAll ds)).length ≤ sizeLine := by simpa only [PyData.shown] using hz
    obtain ⟨as, bs, q1, hb, k1⟩ := LfA.parts I hl rv hs fun t ht => Nat.le_trans (listText_mem_le ht) hz'
    have rd : Reads s.heap (.ref a) (.list ds) (a :: as) := .list ho hc hda (by simpa using q1)
    have hna : a ∉ bs := not_mem_of_deeper rd (by simp only [PyData.depth]; omega) hb
    have fin : ∀ (h' : Heap) (u : Tok) (tk : Nat), (∀ b o, s.heap.get? b = some o → h'.get? b = some o) → EP X pins σ Q (.str (listText (PyData.shownAll ds)) u) { s with heap := h', toks := tk } := fun h' u tk k =>
      ⟨.str _, H, I.kept (t' := tk) k, ⟨_, rfl⟩, by simpa only [PyData.shown] using q⟩
    refine call_repr_slot (by omega) ⟨o, ho, hc⟩ F.slot_list_repr.toG ?_
    cases its with
    | nil =>
      have e0 : ∀ ts, ReprAllK X.prog X.w bs s.heap (PyData.depthAll ds) [] ts → ts = [] := fun ts z => by cases z; rfl
      have e := e0 _ k1
      rw [e, listText_nil] at fin
      exact call_list_repr_empty ⟨o, ho, hc⟩ ho hda ⟨_, _, rfl, fin s.heap _ _ fun _ _ e => e⟩
    | cons x l =>
      exact call_list_reprK ho hc hda hna (by simpa using k1.length_eq) (fun i y e => k1.item i y (by simpa using e)) hG (fun b _ => Clear.nil b) (by show X.A.units + 1 + _ < cLine; omega) (fun _ _ z => z) (fun h' u tk k => ⟨_, _, rfl, fin h' u tk k⟩) hz'
end K00
namespace K00
open PySem PySem.Spec PyProof.Rows L2 Sw
abbrev FnP (K : PySem.W.Frag) (x : Str) (i : Nat) (f : Addr) (fd : FuncData) : Prop := FunD K x x (defArgs (top i)) (defBody (top i)) (defScope (top i)) [] [] f fd
abbrev FnI (K : PySem.W.Frag) (q : Str) (i : Nat) (f : Addr) (fd : FuncData) : Prop := FunD K "__init__" q (defArgs (ini i)) (defBody (ini i)) (defScope (ini i)) [] [] f fd
/-- laid beside -/
theorem upS {H : Hp} {b p : Addr} {o o' : HO} (h : H b = some o) (hp : H p = none) : upd H p o' b = some o := by rw [upd_ne (ne_of_none h hp)]; exact h
/-- an error of the class at C with these fields (the last one that was set first), not raised -/
def Ev (H : Hp) (e C : Addr) (fs : List (Str × V)) : Prop := ∃ d, d ≠ e ∧ H e = some (exo e C (some d)) ∧ H d = some (exd d fs)
theorem Ev.same {H H' : Hp} {e C : Addr} {fs : List (Str × V)} (x : Ev H e C fs) (s : Same H H') : Ev H' e C fs := let ⟨d, n, h1, h2⟩ := x; ⟨d, n, s _ _ h1, s _ _ h2⟩
theorem Ev.xo {H : Hp} {e C : Addr} {fs : List (Str × V)} (x : Ev H e C fs) : Xo H e C := let ⟨_, _, h1, h2⟩ := x; .fld h1 h2
/-- what an __init__ does: the fields are set -/
def spI (K : PySem.W.Frag) (n : Nat) (fs : List V → List (Str × V)) : Sp := fun vs H Q _ => ∃ (a C : Addr) (ys : List V), vs = .ref a :: ys ∧ ys.length = n ∧ XcC K C ∧ H a = some (exo a C none) ∧ ∀ H', Ev H' a C (fs ys) → (∀ b o, b ≠ a → H b = some o → H' b = some o) → Q .non H'
section
variable {P : Program} {w : World} {K : PySem.W.Frag} {mg : Str → Option Value} {base : Heap}
theorem sc_BadFormat : FnScope ["self", "part"] ["self", "part"] (defScope (ini 2)) := ⟨rfl, rfl, rfl, by decide +kernel, rfl, by decide +kernel, by decide +kernel⟩
theorem ok_BadFormat {f : Addr} {fd : FuncData} (F : FnI K "BadFormat.__init__" 2 f fd) : FnOk P w K mg base CX0 1 f fd ["self", "part"] (spI K 1 fun ys => [("part", ys.getD 0 .non)]) := by
  refine F.ok sc_BadFormat (fun vs H Q E h => ?_) (fun cdv A outer s H vs Q E hr h => ?_)
  · obtain ⟨a, C, ys, rfl, hl, _⟩ := h; rw [List.length_cons, hl]; rfl
  · obtain ⟨a, C, ys, rfl, hl, T, ha, k⟩ := h
    match ys, hl, k with
    | [y], _, k =>
    refine ⟨_, PSs.nox (pss_one (ps_xst (pv 0) (pv 1))), ?_⟩
    refine ⟨_, rfl, _, rfl, a, C, rfl, T, by decide, .inl ⟨ha, fun dx hdx hne => k _ ⟨dx, hne, upd_same, by rw [upd_ne hne]; exact upd_same⟩ fun b o hb ho => ?_⟩⟩
    rw [upd_ne hb, upd_ne (ne_of_none ho hdx)]; exact ho
theorem sc_BadText : FnScope ["self", "place"] ["self", "place"] (defScope (ini 3)) := ⟨rfl, rfl, rfl, by decide +kernel, rfl, by decide +kernel, by decide +kernel⟩
theorem ok_BadText {f : Addr} {fd : FuncData} (F : FnI K "BadText.__init__" 3 f fd) : FnOk P w K mg base CX0 1 f fd ["self", "place"] (spI K 1 fun ys => [("place", ys.getD 0 .non)]) := by
  refine F.ok sc_BadText (fun vs H Q E h => ?_) (fun cdv A outer s H vs Q E hr h => ?_)
  · obtain ⟨a, C, ys, rfl, hl, _⟩ := h; rw [List.length_cons, hl]; rfl
  · obtain ⟨a, C, ys, rfl, hl, T, ha, k⟩ := h
    match ys, hl, k with
    | [y], _, k =>
    refine ⟨_, PSs.nox (pss_one (ps_xst (pv 0) (pv 1))), ?_⟩
    refine ⟨_, rfl, _, rfl, a, C, rfl, T, by decide, .inl ⟨ha, fun dx hdx hne => k _ ⟨dx, hne, upd_same, by rw [upd_ne hne]; exact upd_same⟩ fun b o hb ho => ?_⟩⟩
    rw [upd_ne hb, upd_ne (ne_of_none ho hdx)]; exact ho
theorem sc_BadTranslator : FnScope ["self", "part"] ["self", "part"] (defScope (ini 4)) := ⟨rfl, rfl, rfl, by decide +kernel, rfl, by decide +kernel, by decide +kernel⟩
theorem ok_BadTranslator {f : Addr} {fd : FuncData} (F : FnI K "BadTranslator.__init__" 4 f fd) : FnOk P w K mg base CX0 1 f fd ["self", "part"] (spI K 1 fun ys => [("part", ys.getD 0 .non)]) := by
  refine F.ok sc_BadTranslator (fun vs H Q E h => ?_) (fun cdv A outer s H vs Q E hr h => ?_)
  · obtain ⟨a, C, ys, rfl, hl, _⟩ := h; rw [List.length_cons, hl]; rfl
  · obtain ⟨a, C, ys, rfl, hl, T, ha, k⟩ := h
    match ys, hl, k with
    | [y], _, k =>
    refine ⟨_, PSs.nox (pss_one (ps_xst (pv 0) (pv 1))), ?_⟩
    refine ⟨_, rfl, _, rfl, a, C, rfl, T, by decide, .inl ⟨ha, fun dx hdx hne => k _ ⟨dx, hne, upd_same, by rw [upd_ne hne]; exact upd_same⟩ fun b o hb ho => ?_⟩⟩
    rw [upd_ne hb, upd_ne (ne_of_none ho hdx)]; exact ho
theorem sc_NotSure : FnScope ["self", "paper"] ["self", "paper"] (defScope (ini 5)) := ⟨rfl, rfl, rfl, by decide +kernel, rfl, by decide +kernel, by decide +kernel⟩
theorem ok_NotSure {f : Addr} {fd : FuncData} (F : FnI K "NotSure.__init__" 5 f fd) : FnOk P w K mg base CX0 1 f fd ["self", "paper"] (spI K 1 fun ys => [("paper", ys.getD 0 .non)]) := by
  refine F.ok sc_NotSure (fun vs H Q E h => ?_) (fun cdv A outer s H vs Q E hr h => ?_)
  · obtain ⟨a, C, ys, rfl, hl, _⟩ := h; rw [List.length_cons, hl]; rfl
  · obtain ⟨a, C, ys, rfl, hl, T, ha, k⟩ := h
    match ys, hl, k with
    | [y], _, k =>
    refine ⟨_, PSs.nox (pss_one (ps_xst (pv 0) (pv 1))), ?_⟩
    refine ⟨_, rfl, _, rfl, a, C, rfl, T, by decide, .inl ⟨ha, fun dx hdx hne => k _ ⟨dx, hne, upd_same, by rw [upd_ne hne]; exact upd_same⟩ fun b o hb ho => ?_⟩⟩
    rw [upd_ne hb, upd_ne (ne_of_none ho hdx)]; exact ho
theorem sc_BadReader : FnScope ["self", "part"] ["self", "part"] (defScope (ini 6)) := ⟨rfl, rfl, rfl, by decide +kernel, rfl, by decide +kernel, by decide +kernel⟩
theorem ok_BadReader {f : Addr} {fd : FuncData} (F : FnI K "BadReader.__init__" 6 f fd) : FnOk P w K mg base CX0 1 f fd ["self", "part"] (spI K 1 fun ys => [("part", ys.getD 0 .non)]) := by
  refine F.ok sc_BadReader (fun vs H Q E h => ?_) (fun cdv A outer s H vs Q E hr h => ?_)
  · obtain ⟨a, C, ys, rfl, hl, _⟩ := h; rw [List.length_cons, hl]; rfl
  · obtain ⟨a, C, ys, rfl, hl, T, ha, k⟩ := h
    match ys, hl, k with
    | [y], _, k =>
    refine ⟨_, PSs.nox (pss_one (ps_xst (pv 0) (pv 1))), ?_⟩
    refine ⟨_, rfl, _, rfl, a, C, rfl, T, by decide, .inl ⟨ha, fun dx hdx hne => k _ ⟨dx, hne, upd_same, by rw [upd_ne hne]; exact upd_same⟩ fun b o hb ho => ?_⟩⟩
    rw [upd_ne hb, upd_ne (ne_of_none ho hdx)]; exact ho
theorem sc_Drifts : FnScope ["self", "drift"] ["self", "drift"] (defScope (ini 7)) := ⟨rfl, rfl, rfl, by decide +kernel, rfl, by decide +kernel, by decide +kernel⟩
theorem ok_Drifts {f : Addr} {fd : FuncData} (F : FnI K "Drifts.__init__" 7 f fd) : FnOk P w K mg base CX0 1 f fd ["self", "drift"] (spI K 1 fun ys => [("drift", ys.getD 0 .non)]) := by
  refine F.ok sc_Drifts (fun vs H Q E h => ?_) (fun cdv A outer s H vs Q E hr h => ?_)
  · obtain ⟨a, C, ys, rfl, hl, _⟩ := h; rw [List.length_cons, hl]; rfl
  · obtain ⟨a, C, ys, rfl, hl, T, ha, k⟩ := h
    match ys, hl, k with
    | [y], _, k =>
    refine ⟨_, PSs.nox (pss_one (ps_xst (pv 0) (pv 1))), ?_⟩
    refine ⟨_, rfl, _, rfl, a, C, rfl, T, by decide, .inl ⟨ha, fun dx hdx hne => k _ ⟨dx, hne, upd_same, by rw [upd_ne hne]; exact upd_same⟩ fun b o hb ho => ?_⟩⟩
    rw [upd_ne hb, upd_ne (ne_of_none ho hdx)]; exact ho
theorem sc_BadPiece : FnScope ["self", "place"] ["self", "place"] (defScope (ini 8)) := ⟨rfl, rfl, rfl, by decide +kernel, rfl, by decide +kernel, by decide +kernel⟩
theorem ok_BadPiece {f : Addr} {fd : FuncData} (F : FnI K "BadPiece.__init__" 8 f fd) : FnOk P w K mg base CX0 1 f fd ["self", "place"] (spI K 1 fun ys => [("place", ys.getD 0 .non)]) := by
  refine F.ok sc_BadPiece (fun vs H Q E h => ?_) (fun cdv A outer s H vs Q E hr h => ?_)
  · obtain ⟨a, C, ys, rfl, hl, _⟩ := h; rw [List.length_cons, hl]; rfl
  · obtain ⟨a, C, ys, rfl, hl, T, ha, k⟩ := h
    match ys, hl, k with
    | [y], _, k =>
    refine ⟨_, PSs.nox (pss_one (ps_xst (pv 0) (pv 1))), ?_⟩
    refine ⟨_, rfl, _, rfl, a, C, rfl, T, by decide, .inl ⟨ha, fun dx hdx hne => k _ ⟨dx, hne, upd_same, by rw [upd_ne hne]; exact upd_same⟩ fun b o hb ho => ?_⟩⟩
    rw [upd_ne hb, upd_ne (ne_of_none ho hdx)]; exact ho
theorem sc_NoAnswer : FnScope ["self", "text"] ["self", "text"] (defScope (ini 9)) := ⟨rfl, rfl, rfl, by decide +kernel, rfl, by decide +kernel, by decide +kernel⟩
theorem ok_NoAnswer {f : Addr} {fd : FuncData} (F : FnI K "NoAnswer.__init__" 9 f fd) : FnOk P w K mg base CX0 1 f fd ["self", "text"] (spI K 1 fun ys => [("text", ys.getD 0 .non)]) := by
  refine F.ok sc_NoAnswer (fun vs H Q E h => ?_) (fun cdv A outer s H vs Q E hr h => ?_)
  · obtain ⟨a, C, ys, rfl, hl, _⟩ := h; rw [List.length_cons, hl]; rfl
  · obtain ⟨a, C, ys, rfl, hl, T, ha, k⟩ := h
    match ys, hl, k with
    | [y], _, k =>
    refine ⟨_, PSs.nox (pss_one (ps_xst (pv 0) (pv 1))), ?_⟩
    refine ⟨_, rfl, _, rfl, a, C, rfl, T, by decide, .inl ⟨ha, fun dx hdx hne => k _ ⟨dx, hne, upd_same, by rw [upd_ne hne]; exact upd_same⟩ fun b o hb ho => ?_⟩⟩
    rw [upd_ne hb, upd_ne (ne_of_none ho hdx)]; exact ho
theorem sc_NoRest : FnScope ["self", "text"] ["self", "text"] (defScope (ini 10)) := ⟨rfl, rfl, rfl, by decide +kernel, rfl, by decide +kernel, by decide +kernel⟩
theorem ok_NoRest {f : Addr} {fd : FuncData} (F : FnI K "NoRest.__init__" 10 f fd) : FnOk P w K mg base CX0 1 f fd ["self", "text"] (spI K 1 fun ys => [("text", ys.getD 0 .non)]) := by
  refine F.ok sc_NoRest (fun vs H Q E h => ?_) (fun cdv A outer s H vs Q E hr h => ?_)
  · obtain ⟨a, C, ys, rfl, hl, _⟩ := h; rw [List.length_cons, hl]; rfl
  · obtain ⟨a, C, ys, rfl, hl, T, ha, k⟩ := h
    match ys, hl, k with
    | [y], _, k =>
    refine ⟨_, PSs.nox (pss_one (ps_xst (pv 0) (pv 1))), ?_⟩
    refine ⟨_, rfl, _, rfl, a, C, rfl, T, by decide, .inl ⟨ha, fun dx hdx hne => k _ ⟨dx, hne, upd_same, by rw [upd_ne hne]; exact upd_same⟩ fun b o hb ho => ?_⟩⟩
    rw [upd_ne hb, upd_ne (ne_of_none ho hdx)]; exact ho
theorem sc_BadMarking : FnScope ["self", "part"] ["self", "part"] (defScope (ini 11)) := ⟨rfl, rfl, rfl, by decide +kernel, rfl, by decide +kernel, by decide +kernel⟩
theorem ok_BadMarking {f : Addr} {fd : FuncData} (F : FnI K "BadMarking.__init__" 11 f fd) : FnOk P w K mg base CX0 1 f fd ["self", "part"] (spI K 1 fun ys => [("part", ys.getD 0 .non)]) := by
  refine F.ok sc_BadMarking (fun vs H Q E h => ?_) (fun cdv A outer s H vs Q E hr h => ?_)
  · obtain ⟨a, C, ys, rfl, hl, _⟩ := h; rw [List.length_cons, hl]; rfl
  · obtain ⟨a, C, ys, rfl, hl, T, ha, k⟩ := h
    match ys, hl, k with
    | [y], _, k =>
    refine ⟨_, PSs.nox (pss_one (ps_xst (pv 0) (pv 1))), ?_⟩
    refine ⟨_, rfl, _, rfl, a, C, rfl, T, by decide, .inl ⟨ha, fun dx hdx hne => k _ ⟨dx, hne, upd_same, by rw [upd_ne hne]; exact upd_same⟩ fun b o hb ho => ?_⟩⟩
    rw [upd_ne hb, upd_ne (ne_of_none ho hdx)]; exact ho
theorem sc_BadPlace : FnScope ["self", "place"] ["self", "place"] (defScope (ini 13)) := ⟨rfl, rfl, rfl, by decide +kernel, rfl, by decide +kernel, by decide +kernel⟩
theorem ok_BadPlace {f : Addr} {fd : FuncData} (F : FnI K "BadPlace.__init__" 13 f fd) : FnOk P w K mg base CX0 1 f fd ["self", "place"] (spI K 1 fun ys => [("place", ys.getD 0 .non)]) := by
  refine F.ok sc_BadPlace (fun vs H Q E h => ?_) (fun cdv A outer s H vs Q E hr h => ?_)
  · obtain ⟨a, C, ys, rfl, hl, _⟩ := h; rw [List.length_cons, hl]; rfl
  · obtain ⟨a, C, ys, rfl, hl, T, ha, k⟩ := h
    match ys, hl, k with
    | [y], _, k =>
    refine ⟨_, PSs.nox (pss_one (ps_xst (pv 0) (pv 1))), ?_⟩
    refine ⟨_, rfl, _, rfl, a, C, rfl, T, by decide, .inl ⟨ha, fun dx hdx hne => k _ ⟨dx, hne, upd_same, by rw [upd_ne hne]; exact upd_same⟩ fun b o hb ho => ?_⟩⟩
    rw [upd_ne hb, upd_ne (ne_of_none ho hdx)]; exact ho
theorem sc_BadWord : FnScope ["self", "text"] ["self", "text"] (defScope (ini 14)) := ⟨rfl, rfl, rfl, by decide +kernel, rfl, by decide +kernel, by decide +kernel⟩
theorem ok_BadWord {f : Addr} {fd : FuncData} (F : FnI K "BadWord.__init__" 14 f fd) : FnOk P w K mg base CX0 1 f fd ["self", "text"] (spI K 1 fun ys => [("text", ys.getD 0 .non)]) := by
  refine F.ok sc_BadWord (fun vs H Q E h => ?_) (fun cdv A outer s H vs Q E hr h => ?_)
  · obtain ⟨a, C, ys, rfl, hl, _⟩ := h; rw [List.length_cons, hl]; rfl
  · obtain ⟨a, C, ys, rfl, hl, T, ha, k⟩ := h
    match ys, hl, k with
    | [y], _, k =>
    refine ⟨_, PSs.nox (pss_one (ps_xst (pv 0) (pv 1))), ?_⟩
    refine ⟨_, rfl, _, rfl, a, C, rfl, T, by decide, .inl ⟨ha, fun dx hdx hne => k _ ⟨dx, hne, upd_same, by rw [upd_ne hne]; exact upd_same⟩ fun b o hb ho => ?_⟩⟩
    rw [upd_ne hb, upd_ne (ne_of_none ho hdx)]; exact ho
theorem sc_BadLine : FnScope ["self", "part"] ["self", "part"] (defScope (ini 17)) := ⟨rfl, rfl, rfl, by decide +kernel, rfl, by decide +kernel, by decide +kernel⟩
theorem ok_BadLine {f : Addr} {fd : FuncData} (F : FnI K "BadLine.__init__" 17 f fd) : FnOk P w K mg base CX0 1 f fd ["self", "part"] (spI K 1 fun ys => [("part", ys.getD 0 .non)]) := by
  refine F.ok sc_BadLine (fun vs H Q E h => ?_) (fun cdv A outer s H vs Q E hr h => ?_)
  · obtain ⟨a, C, ys, rfl, hl, _⟩ := h; rw [List.length_cons, hl]; rfl
  · obtain ⟨a, C, ys, rfl, hl, T, ha, k⟩ := h
    match ys, hl, k with
    | [y], _, k =>
    refine ⟨_, PSs.nox (pss_one (ps_xst (pv 0) (pv 1))), ?_⟩
    refine ⟨_, rfl, _, rfl, a, C, rfl, T, by decide, .inl ⟨ha, fun dx hdx hne => k _ ⟨dx, hne, upd_same, by rw [upd_ne hne]; exact upd_same⟩ fun b o hb ho => ?_⟩⟩
    rw [upd_ne hb, upd_ne (ne_of_none ho hdx)]; exact ho
theorem sc_OtherTexts : FnScope ["self", "text"] ["self", "text"] (defScope (ini 18)) := ⟨rfl, rfl, rfl, by decide +kernel, rfl, by decide +kernel, by decide +kernel⟩
theorem ok_OtherTexts {f : Addr} {fd : FuncData} (F : FnI K "OtherTexts.__init__" 18 f fd) : FnOk P w K mg base CX0 1 f fd ["self", "text"] (spI K 1 fun ys => [("text", ys.getD 0 .non)]) := by
  refine F.ok sc_OtherTexts (fun vs H Q E h => ?_) (fun cdv A outer s H vs Q E hr h => ?_)
  · obtain ⟨a, C, ys, rfl, hl, _⟩ := h; rw [List.length_cons, hl]; rfl
  · obtain ⟨a, C, ys, rfl, hl, T, ha, k⟩ := h
    match ys, hl, k with
    | [y], _, k =>
    refine ⟨_, PSs.nox (pss_one (ps_xst (pv 0) (pv 1))), ?_⟩
    refine ⟨_, rfl, _, rfl, a, C, rfl, T, by decide, .inl ⟨ha, fun dx hdx hne => k _ ⟨dx, hne, upd_same, by rw [upd_ne hne]; exact upd_same⟩ fun b o hb ho => ?_⟩⟩
    rw [upd_ne hb, upd_ne (ne_of_none ho hdx)]; exact ho
theorem sc_BadName : FnScope ["self", "name"] ["self", "name"] (defScope (ini 21)) := ⟨rfl, rfl, rfl, by decide +kernel, rfl, by decide +kernel, by decide +kernel⟩
theorem ok_BadName {f : Addr} {fd : FuncData} (F : FnI K "BadName.__init__" 21 f fd) : FnOk P w K mg base CX0 1 f fd ["self", "name"] (spI K 1 fun ys => [("name", ys.getD 0 .non)]) := by
  refine F.ok sc_BadName (fun vs H Q E h => ?_) (fun cdv A outer s H vs Q E hr h => ?_)
  · obtain ⟨a, C, ys, rfl, hl, _⟩ := h; rw [List.length_cons, hl]; rfl
  · obtain ⟨a, C, ys, rfl, hl, T, ha, k⟩ := h
    match ys, hl, k with
    | [y], _, k =>
    refine ⟨_, PSs.nox (pss_one (ps_xst (pv 0) (pv 1))), ?_⟩
    refine ⟨_, rfl, _, rfl, a, C, rfl, T, by decide, .inl ⟨ha, fun dx hdx hne => k _ ⟨dx, hne, upd_same, by rw [upd_ne hne]; exact upd_same⟩ fun b o hb ho => ?_⟩⟩
    rw [upd_ne hb, upd_ne (ne_of_none ho hdx)]; exact ho
theorem sc_NoName : FnScope ["self", "name"] ["self", "name"] (defScope (ini 22)) := ⟨rfl, rfl, rfl, by decide +kernel, rfl, by decide +kernel, by decide +kernel⟩
theorem ok_NoName {f : Addr} {fd : FuncData} (F : FnI K "NoName.__init__" 22 f fd) : FnOk P w K mg base CX0 1 f fd ["self", "name"] (spI K 1 fun ys => [("name", ys.getD 0 .non)]) := by
  refine F.ok sc_NoName (fun vs H Q E h => ?_) (fun cdv A outer s H vs Q E hr h => ?_)
  · obtain ⟨a, C, ys, rfl, hl, _⟩ := h; rw [List.length_cons, hl]; rfl
  · obtain ⟨a, C, ys, rfl, hl, T, ha, k⟩ := h
    match ys, hl, k with
    | [y], _, k =>
    refine ⟨_, PSs.nox (pss_one (ps_xst (pv 0) (pv 1))), ?_⟩
    refine ⟨_, rfl, _, rfl, a, C, rfl, T, by decide, .inl ⟨ha, fun dx hdx hne => k _ ⟨dx, hne, upd_same, by rw [upd_ne hne]; exact upd_same⟩ fun b o hb ho => ?_⟩⟩
    rw [upd_ne hb, upd_ne (ne_of_none ho hdx)]; exact ho
theorem sc_NotAlike : FnScope ["self", "text"] ["self", "text"] (defScope (ini 23)) := ⟨rfl, rfl, rfl, by decide +kernel, rfl, by decide +kernel, by decide +kernel⟩
theorem ok_NotAlike {f : Addr} {fd : FuncData} (F : FnI K "NotAlike.__init__" 23 f fd) : FnOk P w K mg base CX0 1 f fd ["self", "text"] (spI K 1 fun ys => [("text", ys.getD 0 .non)]) := by
  refine F.ok sc_NotAlike (fun vs H Q E h => ?_) (fun cdv A outer s H vs Q E hr h => ?_)
  · obtain ⟨a, C, ys, rfl, hl, _⟩ := h; rw [List.length_cons, hl]; rfl
  · obtain ⟨a, C, ys, rfl, hl, T, ha, k⟩ := h
    match ys, hl, k with
    | [y], _, k =>
    refine ⟨_, PSs.nox (pss_one (ps_xst (pv 0) (pv 1))), ?_⟩
    refine ⟨_, rfl, _, rfl, a, C, rfl, T, by decide, .inl ⟨ha, fun dx hdx hne => k _ ⟨dx, hne, upd_same, by rw [upd_ne hne]; exact upd_same⟩ fun b o hb ho => ?_⟩⟩
    rw [upd_ne hb, upd_ne (ne_of_none ho hdx)]; exact ho
theorem sc_Silent : FnScope ["self", "text", "loop", "rest"] ["self", "text", "loop", "rest"] (defScope (ini 15)) := ⟨rfl, rfl, rfl, by decide +kernel, rfl, by decide +kernel, by decide +kernel⟩
theorem ok_Silent {f : Addr} {fd : FuncData} (F : FnI K "Silent.__init__" 15 f fd) : FnOk P w K mg base CX0 1 f fd ["self", "text", "loop", "rest"] (spI K 3 fun ys => [("rest", ys.getD 2 .non), ("loop", ys.getD 1 .non), ("text", ys.getD 0 .non)]) := by
  refine F.ok sc_Silent (fun vs H Q E h => ?_) (fun cdv A outer s H vs Q E hr h => ?_)
  · obtain ⟨a, C, ys, rfl, hl, _⟩ := h; rw [List.length_cons, hl]; rfl
  · obtain ⟨a, C, ys, rfl, hl, T, ha, k⟩ := h
    match ys, hl, k with
    | [y0, y1, y2], _, k =>
    refine ⟨_, PSs.nox (pss_cons (ps_xst (pv 0) (pv 1)) (pss_cons (ps_xst (pv 0) (pv 2)) (pss_one (ps_xst (pv 0) (pv 3))))), ?_⟩
    refine ⟨_, rfl, _, rfl, a, C, rfl, T, by decide, .inl ⟨ha, fun dx hdx hne => ?_⟩⟩
    have e1 : upd (upd H dx (exd dx [("text", y0)])) a (exo a C (some dx)) a = some (exo a C (some dx)) := upd_same
    have e2 : upd (upd H dx (exd dx [("text", y0)])) a (exo a C (some dx)) dx = some (exd dx [("text", y0)]) := by rw [upd_ne hne]; exact upd_same
    have e3 : ∀ b o, b ≠ a → H b = some o → upd (upd H dx (exd dx [("text", y0)])) a (exo a C (some dx)) b = some o ∧ b ≠ dx := fun b o hb ho => ⟨by rw [upd_ne hb, upd_ne (ne_of_none ho hdx)]; exact ho, ne_of_none ho hdx⟩
    generalize upd (upd H dx (exd dx [("text", y0)])) a (exo a C (some dx)) = G at e1 e2 e3 ⊢
    refine ⟨_, rfl, _, rfl, a, C, rfl, T, by decide, .inr ⟨dx, _, e1, e2, by simp, ?_⟩⟩
    refine ⟨_, rfl, _, rfl, a, C, rfl, T, by decide, .inr ⟨dx, _, by rw [upd_ne hne.symm]; exact e1, upd_same, by simp, ?_⟩⟩
    exact k _ ⟨dx, hne, by rw [upd_ne hne.symm, upd_ne hne.symm]; exact e1, upd_same⟩ fun b o hb ho => by rw [upd_ne (e3 b o hb ho).2, upd_ne (e3 b o hb ho).2]; exact (e3 b o hb ho).1
theorem sc_Twins : FnScope ["self", "text", "other", "answer"] ["self", "text", "other", "answer"] (defScope (ini 16)) := ⟨rfl, rfl, rfl, by decide +kernel, rfl, by decide +kernel, by decide +kernel⟩
theorem ok_Twins {f : Addr} {fd : FuncData} (F : FnI K "Twins.__init__" 16 f fd) : FnOk P w K mg base CX0 1 f fd ["self", "text", "other", "answer"] (spI K 3 fun ys => [("answer", ys.getD 2 .non), ("other", ys.getD 1 .non), ("text", ys.getD 0 .non)]) := by
  refine F.ok sc_Twins (fun vs H Q E h => ?_) (fun cdv A outer s H vs Q E hr h => ?_)
  · obtain ⟨a, C, ys, rfl, hl, _⟩ := h; rw [List.length_cons, hl]; rfl
  · obtain ⟨a, C, ys, rfl, hl, T, ha, k⟩ := h
    match ys, hl, k with
    | [y0, y1, y2], _, k =>
    refine ⟨_, PSs.nox (pss_cons (ps_xst (pv 0) (pv 1)) (pss_cons (ps_xst (pv 0) (pv 2)) (pss_one (ps_xst (pv 0) (pv 3))))), ?_⟩
    refine ⟨_, rfl, _, rfl, a, C, rfl, T, by decide, .inl ⟨ha, fun dx hdx hne => ?_⟩⟩
    have e1 : upd (upd H dx (exd dx [("text", y0)])) a (exo a C (some dx)) a = some (exo a C (some dx)) := upd_same
    have e2 : upd (upd H dx (exd dx [("text", y0)])) a (exo a C (some dx)) dx = some (exd dx [("text", y0)]) := by rw [upd_ne hne]; exact upd_same
    have e3 : ∀ b o, b ≠ a → H b = some o → upd (upd H dx (exd dx [("text", y0)])) a (exo a C (some dx)) b = some o ∧ b ≠ dx := fun b o hb ho => ⟨by rw [upd_ne hb, upd_ne (ne_of_none ho hdx)]; exact ho, ne_of_none ho hdx⟩
    generalize upd (upd H dx (exd dx [("text", y0)])) a (exo a C (some dx)) = G at e1 e2 e3 ⊢
    refine ⟨_, rfl, _, rfl, a, C, rfl, T, by decide, .inr ⟨dx, _, e1, e2, by simp, ?_⟩⟩
    refine ⟨_, rfl, _, rfl, a, C, rfl, T, by decide, .inr ⟨dx, _, by rw [upd_ne hne.symm]; exact e1, upd_same, by simp, ?_⟩⟩
    exact k _ ⟨dx, hne, by rw [upd_ne hne.symm, upd_ne hne.symm]; exact e1, upd_same⟩ fun b o hb ho => by rw [upd_ne (e3 b o hb ho).2, upd_ne (e3 b o hb ho).2]; exact (e3 b o hb ho).1
theorem sc_Stops : FnScope ["self", "index", "text"] ["self", "index", "text"] (defScope (ini 20)) := ⟨rfl, rfl, rfl, by decide +kernel, rfl, by decide +kernel, by decide +kernel⟩
theorem ok_Stops {f : Addr} {fd : FuncData} (F : FnI K "Stops.__init__" 20 f fd) : FnOk P w K mg base CX0 1 f fd ["self", "index", "text"] (spI K 2 fun ys => [("text", ys.getD 1 .non), ("index", ys.getD 0 .non)]) := by
  refine F.ok sc_Stops (fun vs H Q E h => ?_) (fun cdv A outer s H vs Q E hr h => ?_)
  · obtain ⟨a, C, ys, rfl, hl, _⟩ := h; rw [List.length_cons, hl]; rfl
  · obtain ⟨a, C, ys, rfl, hl, T, ha, k⟩ := h
    match ys, hl, k with
    | [y0, y1], _, k =>
    refine ⟨_, PSs.nox (pss_cons (ps_xst (pv 0) (pv 1)) (pss_one (ps_xst (pv 0) (pv 2)))), ?_⟩
    refine ⟨_, rfl, _, rfl, a, C, rfl, T, by decide, .inl ⟨ha, fun dx hdx hne => ?_⟩⟩
    have e1 : upd (upd H dx (exd dx [("index", y0)])) a (exo a C (some dx)) a = some (exo a C (some dx)) := upd_same
    have e2 : upd (upd H dx (exd dx [("index", y0)])) a (exo a C (some dx)) dx = some (exd dx [("index", y0)]) := by rw [upd_ne hne]; exact upd_same
    have e3 : ∀ b o, b ≠ a → H b = some o → upd (upd H dx (exd dx [("index", y0)])) a (exo a C (some dx)) b = some o ∧ b ≠ dx := fun b o hb ho => ⟨by rw [upd_ne hb, upd_ne (ne_of_none ho hdx)]; exact ho, ne_of_none ho hdx⟩
    generalize upd (upd H dx (exd dx [("index", y0)])) a (exo a C (some dx)) = G at e1 e2 e3 ⊢
    refine ⟨_, rfl, _, rfl, a, C, rfl, T, by decide, .inr ⟨dx, _, e1, e2, by simp, ?_⟩⟩
    exact k _ ⟨dx, hne, by rw [upd_ne hne.symm]; exact e1, upd_same⟩ fun b o hb ho => by rw [upd_ne (e3 b o hb ho).2]; exact (e3 b o hb ho).1
end
end K00
namespace K00
open PySem PySem.Spec PyProof.Rows L2 Sw
theorem kb_n {K : PySem.W.Frag} {x q : Str} {pa : Arguments} {bo : List Stmt} {sc : Scope} {f : Addr} {fd : FuncData} {ps ks : List Str} {n : Nat} {g : List Value → List Value → List Value} {gV : List V → List V → List V} (F : FunD K x q pa bo sc [] [] f fd)
    (rel : ∀ {vs : List V} {us : List Value} {zs : List V} {ws : List Value}, Vals vs us → Vals zs ws → Vals (gV vs zs) (g us ws))
    (h : ∀ (kV doc pm : Value) (an : Option Addr) (cv ct : Value) (us ws : List Value), us.length = n → ws.length = ks.length → bindArgs (PySem.W.fnOf x q pa bo sc .none kV doc pm an cv ct) ⟨us, ks.zip ws⟩ = pure (ps.zip (g us ws))) : KBn K fd ps n ks g gV := by
  obtain ⟨oc, od, dV, kV, doc, pm, an, cv, ct, osl, rfl, lk, hcd, hD, hK⟩ := F.ex
  rcases hD with ⟨_, e⟩ | ⟨e, _⟩
  · subst e
    exact ⟨fun s us ws _ l1 l2 => .of_eq (h kV doc pm an cv ct us ws l1 l2), rel⟩
  · exact absurd rfl e
/-- turned round behind the first -/
def g3 {α : Type} : List α → List α → List α
  | [a], [x, y, z] => [a, z, y, x]
  | _, _ => []
def g3t {α : Type} : List α → List α → List α
  | [a], [x, y, z] => [a, z, y, x]
  | _, _ => []
def g2t {α : Type} : List α → List α → List α
  | [a], [x, y] => [a, y, x]
  | _, _ => []
/-- of a list of three: by the place told -/
def g3x {α : Type} : List α → List α → List α
  | [a], [x, y, z] => [a, z, y, x]
  | _, _ => []
theorem mk_same {H H' : Hp} {a : Addr} {o0 : HO} (ha : H a = none) (k : ∀ b o, b ≠ a → upd H a o0 b = some o → H' b = some o) : Same H H' := fun b o hb => k b o (ne_of_none hb ha) (by rw [upd_ne (ne_of_none hb ha)]; exact hb)
theorem sameU {H : Hp} {p : Addr} {o : HO} (hp : H p = none) : Same H (upd H p o) := fun b o' hb => upS hb hp
/-- what the written part says of all errors -/
structure Facts (K : PySem.W.Frag) (mg : Str → Option Value) : Prop where
  G : XcG K
  T : ∀ x ∈ ("StreamError" : Str) :: clsN, XcC K (He.ga K x)
  kit : ∀ x ∈ ("StreamError" : Str) :: clsN, ∀ y ∈ clsN, PySem.W.kitOne K (.ref (He.ga K x)) (.ref (He.ga K y)) = some (x == y)
  bas : ∀ x ∈ clsN, PySem.W.kitOne K (.ref (He.ga K x)) (.ref (He.ga K "StreamError")) = some true
  exn : ∀ x ∈ clsN, PySem.W.kitOne K (.ref (He.ga K x)) (.type "Exception") = some true
  us : ∀ x ∈ clsN, ∀ t ∈ usual, PySem.W.kitOne K (.ref (He.ga K x)) (.type t) = some false
  bare : ∀ x ∈ bareN, PySem.W.excIn K (He.ga K x) exB "Exception.__new__" = true
  ini : ∀ x ∈ clsN, bareN.contains x = false → PySem.W.findIn K (.ref (He.ga K x)) "__init__" = some (some (.ref (He.ma K (He.ga K x) "__init__"))) ∧ PySem.W.isFn K (.ref (He.ma K (He.ga K x) "__init__")) = true
  exm : ∀ x ∈ clsN, PySem.W.exmOne K (.ref (He.ga K x)) (.ref (He.ga K "StreamError")) = some true
  mgC : ∀ x ∈ ("StreamError" : Str) :: clsN, mg x = some (.ref (He.ga K x))
  i_BadFormat : ∃ fd, FnI K "BadFormat.__init__" 2 (He.ma K (He.ga K "BadFormat") "__init__") fd
  i_BadText : ∃ fd, FnI K "BadText.__init__" 3 (He.ma K (He.ga K "BadText") "__init__") fd
  i_BadTranslator : ∃ fd, FnI K "BadTranslator.__init__" 4 (He.ma K (He.ga K "BadTranslator") "__init__") fd
  i_NotSure : ∃ fd, FnI K "NotSure.__init__" 5 (He.ma K (He.ga K "NotSure") "__init__") fd
  i_BadReader : ∃ fd, FnI K "BadReader.__init__" 6 (He.ma K (He.ga K "BadReader") "__init__") fd
  i_Drifts : ∃ fd, FnI K "Drifts.__init__" 7 (He.ma K (He.ga K "Drifts") "__init__") fd
  i_BadPiece : ∃ fd, FnI K "BadPiece.__init__" 8 (He.ma K (He.ga K "BadPiece") "__init__") fd
  i_NoAnswer : ∃ fd, FnI K "NoAnswer.__init__" 9 (He.ma K (He.ga K "NoAnswer") "__init__") fd
  i_NoRest : ∃ fd, FnI K "NoRest.__init__" 10 (He.ma K (He.ga K "NoRest") "__init__") fd
  i_BadMarking : ∃ fd, FnI K "BadMarking.__init__" 11 (He.ma K (He.ga K "BadMarking") "__init__") fd
  i_BadPlace : ∃ fd, FnI K "BadPlace.__init__" 13 (He.ma K (He.ga K "BadPlace") "__init__") fd
  i_BadWord : ∃ fd, FnI K "BadWord.__init__" 14 (He.ma K (He.ga K "BadWord") "__init__") fd
  i_BadLine : ∃ fd, FnI K "BadLine.__init__" 17 (He.ma K (He.ga K "BadLine") "__init__") fd
  i_OtherTexts : ∃ fd, FnI K "OtherTexts.__init__" 18 (He.ma K (He.ga K "OtherTexts") "__init__") fd
  i_BadName : ∃ fd, FnI K "BadName.__init__" 21 (He.ma K (He.ga K "BadName") "__init__") fd
  i_NoName : ∃ fd, FnI K "NoName.__init__" 22 (He.ma K (He.ga K "NoName") "__init__") fd
  i_NotAlike : ∃ fd, FnI K "NotAlike.__init__" 23 (He.ma K (He.ga K "NotAlike") "__init__") fd
  i_Silent : ∃ fd, FnI K "Silent.__init__" 15 (He.ma K (He.ga K "Silent") "__init__") fd
  i_Twins : ∃ fd, FnI K "Twins.__init__" 16 (He.ma K (He.ga K "Twins") "__init__") fd
  i_Stops : ∃ fd, FnI K "Stops.__init__" 20 (He.ma K (He.ga K "Stops") "__init__") fd
def nmAt (n : Nat) : Str := clsN.getD n ""
def fldAt (n : Nat) : Str := (["part", "place", "part", "paper", "part", "drift", "place", "text", "text", "part", "place", "text", "part", "text", "name", "name", "text"] : List Str).getD n ""
/-- the fields that an error bears, the last one first -/
def fldsOf (n : Nat) (it mate far : V) : List (Str × V) := if n < 17 then [(fldAt n, it)] else if n = 22 then [("rest", far), ("loop", mate), ("text", it)] else if n = 23 then [("answer", far), ("other", mate), ("text", it)] else if n = 24 then [("text", mate), ("index", it)] else []
section
variable {P : Program} {w : World} {K : PySem.W.Frag} {mg : Str → Option Value} {base : Heap}
def spM1 (K : PySem.W.Frag) (lo hi : Nat) : Sp := fun vs H Q _ => ∃ (n : Nat) (it : V), vs = [.int n, it] ∧ lo ≤ n ∧ n ≤ hi ∧ ∀ p e1 e2 H', H' p = some (.lst [.ref e1, .ref e2]) → Ev H' e1 (He.ga K (nmAt n)) [(fldAt n, it)] → Ev H' e2 (He.ga K (nmAt n)) [(fldAt n, it)] → Same H H' → Q (.ref p) H'
theorem sc_made0 : FnScope ["_law_at", "_law_it"] ["_law_at", "_law_it"] (defScope (top 31)) := ⟨rfl, rfl, rfl, by decide +kernel, rfl, by decide +kernel, by decide +kernel⟩
theorem ok_made0 {f : Addr} {fd : FuncData} (F : FnP K "_law_made_0" 31 f fd) (Z : Facts K mg) : FnOk P w K mg base CX0 3 f fd ["_law_at", "_law_it"] (spM1 K 0 5) := by
  obtain ⟨fd0, F0⟩ := Z.i_BadFormat
  have T0 := Z.T "BadFormat" (by decide)
  have h0 := Z.ini "BadFormat" (by decide) (by decide)
  have b0 : Binds K fd0 ["self", "part"] [] := F0.bindsN fun _ _ _ _ _ _ us hl => match us, hl with | [_, _], _ => rfl
  have k0 : KBn K fd0 ["self", "part"] 1 ["part"] (fun us ws => us ++ ws) (fun vs zs => vs ++ zs) := kb_n F0 (fun r1 r2 => r1.append r2) fun _ _ _ _ _ _ us ws l1 l2 => match us, l1, ws, l2 with | [_], _, [_], _ => rfl
  obtain ⟨fd1, F1⟩ := Z.i_BadText
  have T1 := Z.T "BadText" (by decide)
  have h1 := Z.ini "BadText" (by decide) (by decide)
  have b1 : Binds K fd1 ["self", "place"] [] := F1.bindsN fun _ _ _ _ _ _ us hl => match us, hl with | [_, _], _ => rfl
  have k1 : KBn K fd1 ["self", "place"] 1 ["place"] (fun us ws => us ++ ws) (fun vs zs => vs ++ zs) := kb_n F1 (fun r1 r2 => r1.append r2) fun _ _ _ _ _ _ us ws l1 l2 => match us, l1, ws, l2 with | [_], _, [_], _ => rfl
  obtain ⟨fd2, F2⟩ := Z.i_BadTranslator
  have T2 := Z.T "BadTranslator" (by decide)
  have h2 := Z.ini "BadTranslator" (by decide) (by decide)
  have b2 : Binds K fd2 ["self", "part"] [] := F2.bindsN fun _ _ _ _ _ _ us hl => match us, hl with | [_, _], _ => rfl
  have k2 : KBn K fd2 ["self", "part"] 1 ["part"] (fun us ws => us ++ ws) (fun vs zs => vs ++ zs) := kb_n F2 (fun r1 r2 => r1.append r2) fun _ _ _ _ _ _ us ws l1 l2 => match us, l1, ws, l2 with | [_], _, [_], _ => rfl
  obtain ⟨fd3, F3⟩ := Z.i_NotSure
  have T3 := Z.T "NotSure" (by decide)
  have h3 := Z.ini "NotSure" (by decide) (by decide)
  have b3 : Binds K fd3 ["self", "paper"] [] := F3.bindsN fun _ _ _ _ _ _ us hl => match us, hl with | [_, _], _ => rfl
  have k3 : KBn K fd3 ["self", "paper"] 1 ["paper"] (fun us ws => us ++ ws) (fun vs zs => vs ++ zs) := kb_n F3 (fun r1 r2 => r1.append r2) fun _ _ _ _ _ _ us ws l1 l2 => match us, l1, ws, l2 with | [_], _, [_], _ => rfl
  obtain ⟨fd4, F4⟩ := Z.i_BadReader
  have T4 := Z.T "BadReader" (by decide)
  have h4 := Z.ini "BadReader" (by decide) (by decide)
  have b4 : Binds K fd4 ["self", "part"] [] := F4.bindsN fun _ _ _ _ _ _ us hl => match us, hl with | [_, _], _ => rfl
  have k4 : KBn K fd4 ["self", "part"] 1 ["part"] (fun us ws => us ++ ws) (fun vs zs => vs ++ zs) := kb_n F4 (fun r1 r2 => r1.append r2) fun _ _ _ _ _ _ us ws l1 l2 => match us, l1, ws, l2 with | [_], _, [_], _ => rfl
  obtain ⟨fd5, F5⟩ := Z.i_Drifts
  have T5 := Z.T "Drifts" (by decide)
  have h5 := Z.ini "Drifts" (by decide) (by decide)
  have b5 : Binds K fd5 ["self", "drift"] [] := F5.bindsN fun _ _ _ _ _ _ us hl => match us, hl with | [_, _], _ => rfl
  have k5 : KBn K fd5 ["self", "drift"] 1 ["drift"] (fun us ws => us ++ ws) (fun vs zs => vs ++ zs) := kb_n F5 (fun r1 r2 => r1.append r2) fun _ _ _ _ _ _ us ws l1 l2 => match us, l1, ws, l2 with | [_], _, [_], _ => rfl
  refine F.ok sc_made0 (fun vs H Q E h => ?_) (fun cdv A outer s H vs Q E hr h => ?_)
  · obtain ⟨n, it, rfl, _⟩ := h; rfl
  · obtain ⟨n, it, rfl, lo, hi, kk⟩ := h
    have hr : Room 2 _ := hr
    refine ⟨_, PSs.nox (pss_cons (ps_if (pt_cmpR op_eq (pv 0) pe_int (nomark _)) (pss_one (ps_ret (pe_lst (pa_cons (pe_xmk T0 h0.1 h0.2 (ok_BadFormat F0) hr b0 (by rfl) (Z.mgC "BadFormat" (by decide)) (pa_cons (pv 1) pa_nil)) (pa_cons (pe_xmkK T0 h0.1 h0.2 (ok_BadFormat F0) hr k0 (by rfl) (Z.mgC "BadFormat" (by decide)) (pk_cons (pv 1) pk_nil)) pa_nil))))) pss_nil)
      (pss_cons (ps_if (pt_cmpR op_eq (pv 0) pe_int (nomark _)) (pss_one (ps_ret (pe_lst (pa_cons (pe_xmk T1 h1.1 h1.2 (ok_BadText F1) hr b1 (by rfl) (Z.mgC "BadText" (by decide)) (pa_cons (pv 1) pa_nil)) (pa_cons (pe_xmkK T1 h1.1 h1.2 (ok_BadText F1) hr k1 (by rfl) (Z.mgC "BadText" (by decide)) (pk_cons (pv 1) pk_nil)) pa_nil))))) pss_nil)
      (pss_cons (ps_if (pt_cmpR op_eq (pv 0) pe_int (nomark _)) (pss_one (ps_ret (pe_lst (pa_cons (pe_xmk T2 h2.1 h2.2 (ok_BadTranslator F2) hr b2 (by rfl) (Z.mgC "BadTranslator" (by decide)) (pa_cons (pv 1) pa_nil)) (pa_cons (pe_xmkK T2 h2.1 h2.2 (ok_BadTranslator F2) hr k2 (by rfl) (Z.mgC "BadTranslator" (by decide)) (pk_cons (pv 1) pk_nil)) pa_nil))))) pss_nil)
      (pss_cons (ps_if (pt_cmpR op_eq (pv 0) pe_int (nomark _)) (pss_one (ps_ret (pe_lst (pa_cons (pe_xmk T3 h3.1 h3.2 (ok_NotSure F3) hr b3 (by rfl) (Z.mgC "NotSure" (by decide)) (pa_cons (pv 1) pa_nil)) (pa_cons (pe_xmkK T3 h3.1 h3.2 (ok_NotSure F3) hr k3 (by rfl) (Z.mgC "NotSure" (by decide)) (pk_cons (pv 1) pk_nil)) pa_nil))))) pss_nil)
      (pss_cons (ps_if (pt_cmpR op_eq (pv 0) pe_int (nomark _)) (pss_one (ps_ret (pe_lst (pa_cons (pe_xmk T4 h4.1 h4.2 (ok_BadReader F4) hr b4 (by rfl) (Z.mgC "BadReader" (by decide)) (pa_cons (pv 1) pa_nil)) (pa_cons (pe_xmkK T4 h4.1 h4.2 (ok_BadReader F4) hr k4 (by rfl) (Z.mgC "BadReader" (by decide)) (pk_cons (pv 1) pk_nil)) pa_nil))))) pss_nil)
      (pss_one (ps_ret (pe_lst (pa_cons (pe_xmk T5 h5.1 h5.2 (ok_Drifts F5) hr b5 (by rfl) (Z.mgC "Drifts" (by decide)) (pa_cons (pv 1) pa_nil)) (pa_cons (pe_xmkK T5 h5.1 h5.2 (ok_Drifts F5) hr k5 (by rfl) (Z.mgC "Drifts" (by decide)) (pk_cons (pv 1) pk_nil)) pa_nil)))))))))), ?_⟩
    have lz := line_big
    rcases (show n = 0 ∨ n = 1 ∨ n = 2 ∨ n = 3 ∨ n = 4 ∨ n = 5 by omega) with rfl | rfl | rfl | rfl | rfl | rfl
    · refine ⟨_, rfl, rfl, _, rfl, iteT ⟨_, rfl, by show 1 ≤ 1000; omega, fun a ha => ⟨a, _, [it], rfl, rfl, T0, upd_same, fun H1 ev1 k1 => ⟨rfl, _, rfl, rfl, fun a2 ha2 => ⟨a2, _, [it], rfl, rfl, T0, upd_same, fun H2 ev2 k2 => ⟨rfl, by show 2 ≤ sizeLine; omega, fun p hp => ?_⟩⟩⟩⟩⟩⟩
      exact kk p a a2 _ upd_same ((ev1.same (mk_same ha2 k2)).same (sameU hp)) (ev2.same (sameU hp)) (((mk_same ha k1).trans (mk_same ha2 k2)).trans (sameU hp))
    · refine ⟨_, rfl, rfl, _, rfl, iteF ⟨_, rfl, rfl, _, rfl, iteT ⟨_, rfl, by show 1 ≤ 1000; omega, fun a ha => ⟨a, _, [it], rfl, rfl, T1, upd_same, fun H1 ev1 k1 => ⟨rfl, _, rfl, rfl, fun a2 ha2 => ⟨a2, _, [it], rfl, rfl, T1, upd_same, fun H2 ev2 k2 => ⟨rfl, by show 2 ≤ sizeLine; omega, fun p hp => ?_⟩⟩⟩⟩⟩⟩⟩
      exact kk p a a2 _ upd_same ((ev1.same (mk_same ha2 k2)).same (sameU hp)) (ev2.same (sameU hp)) (((mk_same ha k1).trans (mk_same ha2 k2)).trans (sameU hp))
    · refine ⟨_, rfl, rfl, _, rfl, iteF ⟨_, rfl, rfl, _, rfl, iteF ⟨_, rfl, rfl, _, rfl, iteT ⟨_, rfl, by show 1 ≤ 1000; omega, fun a ha => ⟨a, _, [it], rfl, rfl, T2, upd_same, fun H1 ev1 k1 => ⟨rfl, _, rfl, rfl, fun a2 ha2 => ⟨a2, _, [it], rfl, rfl, T2, upd_same, fun H2 ev2 k2 => ⟨rfl, by show 2 ≤ sizeLine; omega, fun p hp => ?_⟩⟩⟩⟩⟩⟩⟩⟩
      exact kk p a a2 _ upd_same ((ev1.same (mk_same ha2 k2)).same (sameU hp)) (ev2.same (sameU hp)) (((mk_same ha k1).trans (mk_same ha2 k2)).trans (sameU hp))
    · refine ⟨_, rfl, rfl, _, rfl, iteF ⟨_, rfl, rfl, _, rfl, iteF ⟨_, rfl, rfl, _, rfl, iteF ⟨_, rfl, rfl, _, rfl, iteT ⟨_, rfl, by show 1 ≤ 1000; omega, fun a ha => ⟨a, _, [it], rfl, rfl, T3, upd_same, fun H1 ev1 k1 => ⟨rfl, _, rfl, rfl, fun a2 ha2 => ⟨a2, _, [it], rfl, rfl, T3, upd_same, fun H2 ev2 k2 => ⟨rfl, by show 2 ≤ sizeLine; omega, fun p hp => ?_⟩⟩⟩⟩⟩⟩⟩⟩⟩
      exact kk p a a2 _ upd_same ((ev1.same (mk_same ha2 k2)).same (sameU hp)) (ev2.same (sameU hp)) (((mk_same ha k1).trans (mk_same ha2 k2)).trans (sameU hp))
    · refine ⟨_, rfl, rfl, _, rfl, iteF ⟨_, rfl, rfl, _, rfl, iteF ⟨_, rfl, rfl, _, rfl, iteF ⟨_, rfl, rfl, _, rfl, iteF ⟨_, rfl, rfl, _, rfl, iteT ⟨_, rfl, by show 1 ≤ 1000; omega, fun a ha => ⟨a, _, [it], rfl, rfl, T4, upd_same, fun H1 ev1 k1 => ⟨rfl, _, rfl, rfl, fun a2 ha2 => ⟨a2, _, [it], rfl, rfl, T4, upd_same, fun H2 ev2 k2 => ⟨rfl, by show 2 ≤ sizeLine; omega, fun p hp => ?_⟩⟩⟩⟩⟩⟩⟩⟩⟩⟩
      exact kk p a a2 _ upd_same ((ev1.same (mk_same ha2 k2)).same (sameU hp)) (ev2.same (sameU hp)) (((mk_same ha k1).trans (mk_same ha2 k2)).trans (sameU hp))
    · refine ⟨_, rfl, rfl, _, rfl, iteF ⟨_, rfl, rfl, _, rfl, iteF ⟨_, rfl, rfl, _, rfl, iteF ⟨_, rfl, rfl, _, rfl, iteF ⟨_, rfl, rfl, _, rfl, iteF ⟨_, rfl, by show 1 ≤ 1000; omega, fun a ha => ⟨a, _, [it], rfl, rfl, T5, upd_same, fun H1 ev1 k1 => ⟨rfl, _, rfl, rfl, fun a2 ha2 => ⟨a2, _, [it], rfl, rfl, T5, upd_same, fun H2 ev2 k2 => ⟨rfl, by show 2 ≤ sizeLine; omega, fun p hp => ?_⟩⟩⟩⟩⟩⟩⟩⟩⟩⟩
      exact kk p a a2 _ upd_same ((ev1.same (mk_same ha2 k2)).same (sameU hp)) (ev2.same (sameU hp)) (((mk_same ha k1).trans (mk_same ha2 k2)).trans (sameU hp))
theorem sc_made1 : FnScope ["_law_at", "_law_it"] ["_law_at", "_law_it"] (defScope (top 32)) := ⟨rfl, rfl, rfl, by decide +kernel, rfl, by decide +kernel, by decide +kernel⟩
theorem ok_made1 {f : Addr} {fd : FuncData} (F : FnP K "_law_made_1" 32 f fd) (Z : Facts K mg) : FnOk P w K mg base CX0 3 f fd ["_law_at", "_law_it"] (spM1 K 6 11) := by
  obtain ⟨fd6, F6⟩ := Z.i_BadPiece
  have T6 := Z.T "BadPiece" (by decide)
  have h6 := Z.ini "BadPiece" (by decide) (by decide)
  have b6 : Binds K fd6 ["self", "place"] [] := F6.bindsN fun _ _ _ _ _ _ us hl => match us, hl with | [_, _], _ => rfl
  have k6 : KBn K fd6 ["self", "place"] 1 ["place"] (fun us ws => us ++ ws) (fun vs zs => vs ++ zs) := kb_n F6 (fun r1 r2 => r1.append r2) fun _ _ _ _ _ _ us ws l1 l2 => match us, l1, ws, l2 with | [_], _, [_], _ => rfl
  obtain ⟨fd7, F7⟩ := Z.i_NoAnswer
  have T7 := Z.T "NoAnswer" (by decide)
  have h7 := Z.ini "NoAnswer" (by decide) (by decide)
  have b7 : Binds K fd7 ["self", "text"] [] := F7.bindsN fun _ _ _ _ _ _ us hl => match us, hl with | [_, _], _ => rfl
  have k7 : KBn K fd7 ["self", "text"] 1 ["text"] (fun us ws => us ++ ws) (fun vs zs => vs ++ zs) := kb_n F7 (fun r1 r2 => r1.append r2) fun _ _ _ _ _ _ us ws l1 l2 => match us, l1, ws, l2 with | [_], _, [_], _ => rfl
  obtain ⟨fd8, F8⟩ := Z.i_NoRest
  have T8 := Z.T "NoRest" (by decide)
  have h8 := Z.ini "NoRest" (by decide) (by decide)
  have b8 : Binds K fd8 ["self", "text"] [] := F8.bindsN fun _ _ _ _ _ _ us hl => match us, hl with | [_, _], _ => rfl
  have k8 : KBn K fd8 ["self", "text"] 1 ["text"] (fun us ws => us ++ ws) (fun vs zs => vs ++ zs) := kb_n F8 (fun r1 r2 => r1.append r2) fun _ _ _ _ _ _ us ws l1 l2 => match us, l1, ws, l2 with | [_], _, [_], _ => rfl
  obtain ⟨fd9, F9⟩ := Z.i_BadMarking
  have T9 := Z.T "BadMarking" (by decide)
  have h9 := Z.ini "BadMarking" (by decide) (by decide)
  have b9 : Binds K fd9 ["self", "part"] [] := F9.bindsN fun _ _ _ _ _ _ us hl => match us, hl with | [_, _], _ => rfl
  have k9 : KBn K fd9 ["self", "part"] 1 ["part"] (fun us ws => us ++ ws) (fun vs zs => vs ++ zs) := kb_n F9 (fun r1 r2 => r1.append r2) fun _ _ _ _ _ _ us ws l1 l2 => match us, l1, ws, l2 with | [_], _, [_], _ => rfl
  obtain ⟨fd10, F10⟩ := Z.i_BadPlace
  have T10 := Z.T "BadPlace" (by decide)
  have h10 := Z.ini "BadPlace" (by decide) (by decide)
  have b10 : Binds K fd10 ["self", "place"] [] := F10.bindsN fun _ _ _ _ _ _ us hl => match us, hl with | [_, _], _ => rfl
  have k10 : KBn K fd10 ["self", "place"] 1 ["place"] (fun us ws => us ++ ws) (fun vs zs => vs ++ zs) := kb_n F10 (fun r1 r2 => r1.append r2) fun _ _ _ _ _ _ us ws l1 l2 => match us, l1, ws, l2 with | [_], _, [_], _ => rfl
  obtain ⟨fd11, F11⟩ := Z.i_BadWord
  have T11 := Z.T "BadWord" (by decide)
  have h11 := Z.ini "BadWord" (by decide) (by decide)
  have b11 : Binds K fd11 ["self", "text"] [] := F11.bindsN fun _ _ _ _ _ _ us hl => match us, hl with | [_, _], _ => rfl
  have k11 : KBn K fd11 ["self", "text"] 1 ["text"] (fun us ws => us ++ ws) (fun vs zs => vs ++ zs) := kb_n F11 (fun r1 r2 => r1.append r2) fun _ _ _ _ _ _ us ws l1 l2 => match us, l1, ws, l2 with | [_], _, [_], _ => rfl
  refine F.ok sc_made1 (fun vs H Q E h => ?_) (fun cdv A outer s H vs Q E hr h => ?_)
  · obtain ⟨n, it, rfl, _⟩ := h; rfl
  · obtain ⟨n, it, rfl, lo, hi, kk⟩ := h
    have hr : Room 2 _ := hr
    refine ⟨_, PSs.nox (pss_cons (ps_if (pt_cmpR op_eq (pv 0) pe_int (nomark _)) (pss_one (ps_ret (pe_lst (pa_cons (pe_xmk T6 h6.1 h6.2 (ok_BadPiece F6) hr b6 (by rfl) (Z.mgC "BadPiece" (by decide)) (pa_cons (pv 1) pa_nil)) (pa_cons (pe_xmkK T6 h6.1 h6.2 (ok_BadPiece F6) hr k6 (by rfl) (Z.mgC "BadPiece" (by decide)) (pk_cons (pv 1) pk_nil)) pa_nil))))) pss_nil)
      (pss_cons (ps_if (pt_cmpR op_eq (pv 0) pe_int (nomark _)) (pss_one (ps_ret (pe_lst (pa_cons (pe_xmk T7 h7.1 h7.2 (ok_NoAnswer F7) hr b7 (by rfl) (Z.mgC "NoAnswer" (by decide)) (pa_cons (pv 1) pa_nil)) (pa_cons (pe_xmkK T7 h7.1 h7.2 (ok_NoAnswer F7) hr k7 (by rfl) (Z.mgC "NoAnswer" (by decide)) (pk_cons (pv 1) pk_nil)) pa_nil))))) pss_nil)
      (pss_cons (ps_if (pt_cmpR op_eq (pv 0) pe_int (nomark _)) (pss_one (ps_ret (pe_lst (pa_cons (pe_xmk T8 h8.1 h8.2 (ok_NoRest F8) hr b8 (by rfl) (Z.mgC "NoRest" (by decide)) (pa_cons (pv 1) pa_nil)) (pa_cons (pe_xmkK T8 h8.1 h8.2 (ok_NoRest F8) hr k8 (by rfl) (Z.mgC "NoRest" (by decide)) (pk_cons (pv 1) pk_nil)) pa_nil))))) pss_nil)
      (pss_cons (ps_if (pt_cmpR op_eq (pv 0) pe_int (nomark _)) (pss_one (ps_ret (pe_lst (pa_cons (pe_xmk T9 h9.1 h9.2 (ok_BadMarking F9) hr b9 (by rfl) (Z.mgC "BadMarking" (by decide)) (pa_cons (pv 1) pa_nil)) (pa_cons (pe_xmkK T9 h9.1 h9.2 (ok_BadMarking F9) hr k9 (by rfl) (Z.mgC "BadMarking" (by decide)) (pk_cons (pv 1) pk_nil)) pa_nil))))) pss_nil)
      (pss_cons (ps_if (pt_cmpR op_eq (pv 0) pe_int (nomark _)) (pss_one (ps_ret (pe_lst (pa_cons (pe_xmk T10 h10.1 h10.2 (ok_BadPlace F10) hr b10 (by rfl) (Z.mgC "BadPlace" (by decide)) (pa_cons (pv 1) pa_nil)) (pa_cons (pe_xmkK T10 h10.1 h10.2 (ok_BadPlace F10) hr k10 (by rfl) (Z.mgC "BadPlace" (by decide)) (pk_cons (pv 1) pk_nil)) pa_nil))))) pss_nil)
      (pss_one (ps_ret (pe_lst (pa_cons (pe_xmk T11 h11.1 h11.2 (ok_BadWord F11) hr b11 (by rfl) (Z.mgC "BadWord" (by decide)) (pa_cons (pv 1) pa_nil)) (pa_cons (pe_xmkK T11 h11.1 h11.2 (ok_BadWord F11) hr k11 (by rfl) (Z.mgC "BadWord" (by decide)) (pk_cons (pv 1) pk_nil)) pa_nil)))))))))), ?_⟩
    have lz := line_big
    rcases (show n = 6 ∨ n = 7 ∨ n = 8 ∨ n = 9 ∨ n = 10 ∨ n = 11 by omega) with rfl | rfl | rfl | rfl | rfl | rfl
    · refine ⟨_, rfl, rfl, _, rfl, iteT ⟨_, rfl, by show 1 ≤ 1000; omega, fun a ha => ⟨a, _, [it], rfl, rfl, T6, upd_same, fun H1 ev1 k1 => ⟨rfl, _, rfl, rfl, fun a2 ha2 => ⟨a2, _, [it], rfl, rfl, T6, upd_same, fun H2 ev2 k2 => ⟨rfl, by show 2 ≤ sizeLine; omega, fun p hp => ?_⟩⟩⟩⟩⟩⟩
      exact kk p a a2 _ upd_same ((ev1.same (mk_same ha2 k2)).same (sameU hp)) (ev2.same (sameU hp)) (((mk_same ha k1).trans (mk_same ha2 k2)).trans (sameU hp))
    · refine ⟨_, rfl, rfl, _, rfl, iteF ⟨_, rfl, rfl, _, rfl, iteT ⟨_, rfl, by show 1 ≤ 1000; omega, fun a ha => ⟨a, _, [it], rfl, rfl, T7, upd_same, fun H1 ev1 k1 => ⟨rfl, _, rfl, rfl, fun a2 ha2 => ⟨a2, _, [it], rfl, rfl, T7, upd_same, fun H2 ev2 k2 => ⟨rfl, by show 2 ≤ sizeLine; omega, fun p hp => ?_⟩⟩⟩⟩⟩⟩⟩
      exact kk p a a2 _ upd_same ((ev1.same (mk_same ha2 k2)).same (sameU hp)) (ev2.same (sameU hp)) (((mk_same ha k1).trans (mk_same ha2 k2)).trans (sameU hp))
    · refine ⟨_, rfl, rfl, _, rfl, iteF ⟨_, rfl, rfl, _, rfl, iteF ⟨_, rfl, rfl, _, rfl, iteT ⟨_, rfl, by show 1 ≤ 1000; omega, fun a ha => ⟨a, _, [it], rfl, rfl, T8, upd_same, fun H1 ev1 k1 => ⟨rfl, _, rfl, rfl, fun a2 ha2 => ⟨a2, _, [it], rfl, rfl, T8, upd_same, fun H2 ev2 k2 => ⟨rfl, by show 2 ≤ sizeLine; omega, fun p hp => ?_⟩⟩⟩⟩⟩⟩⟩⟩
      exact kk p a a2 _ upd_same ((ev1.same (mk_same ha2 k2)).same (sameU hp)) (ev2.same (sameU hp)) (((mk_same ha k1).trans (mk_same ha2 k2)).trans (sameU hp))
    · refine ⟨_, rfl, rfl, _, rfl, iteF ⟨_, rfl, rfl, _, rfl, iteF ⟨_, rfl, rfl, _, rfl, iteF ⟨_, rfl, rfl, _, rfl, iteT ⟨_, rfl, by show 1 ≤ 1000; omega, fun a ha => ⟨a, _, [it], rfl, rfl, T9, upd_same, fun H1 ev1 k1 => ⟨rfl, _, rfl, rfl, fun a2 ha2 => ⟨a2, _, [it], rfl, rfl, T9, upd_same, fun H2 ev2 k2 => ⟨rfl, by show 2 ≤ sizeLine; omega, fun p hp => ?_⟩⟩⟩⟩⟩⟩⟩⟩⟩
      exact kk p a a2 _ upd_same ((ev1.same (mk_same ha2 k2)).same (sameU hp)) (ev2.same (sameU hp)) (((mk_same ha k1).trans (mk_same ha2 k2)).trans (sameU hp))
    · refine ⟨_, rfl, rfl, _, rfl, iteF ⟨_, rfl, rfl, _, rfl, iteF ⟨_, rfl, rfl, _, rfl, iteF ⟨_, rfl, rfl, _, rfl, iteF ⟨_, rfl, rfl, _, rfl, iteT ⟨_, rfl, by show 1 ≤ 1000; omega, fun a ha => ⟨a, _, [it], rfl, rfl, T10, upd_same, fun H1 ev1 k1 => ⟨rfl, _, rfl, rfl, fun a2 ha2 => ⟨a2, _, [it], rfl, rfl, T10, upd_same, fun H2 ev2 k2 => ⟨rfl, by show 2 ≤ sizeLine; omega, fun p hp => ?_⟩⟩⟩⟩⟩⟩⟩⟩⟩⟩
      exact kk p a a2 _ upd_same ((ev1.same (mk_same ha2 k2)).same (sameU hp)) (ev2.same (sameU hp)) (((mk_same ha k1).trans (mk_same ha2 k2)).trans (sameU hp))
    · refine ⟨_, rfl, rfl, _, rfl, iteF ⟨_, rfl, rfl, _, rfl, iteF ⟨_, rfl, rfl, _, rfl, iteF ⟨_, rfl, rfl, _, rfl, iteF ⟨_, rfl, rfl, _, rfl, iteF ⟨_, rfl, by show 1 ≤ 1000; omega, fun a ha => ⟨a, _, [it], rfl, rfl, T11, upd_same, fun H1 ev1 k1 => ⟨rfl, _, rfl, rfl, fun a2 ha2 => ⟨a2, _, [it], rfl, rfl, T11, upd_same, fun H2 ev2 k2 => ⟨rfl, by show 2 ≤ sizeLine; omega, fun p hp => ?_⟩⟩⟩⟩⟩⟩⟩⟩⟩⟩
      exact kk p a a2 _ upd_same ((ev1.same (mk_same ha2 k2)).same (sameU hp)) (ev2.same (sameU hp)) (((mk_same ha k1).trans (mk_same ha2 k2)).trans (sameU hp))
theorem sc_made2 : FnScope ["_law_at", "_law_it"] ["_law_at", "_law_it"] (defScope (top 33)) := ⟨rfl, rfl, rfl, by decide +kernel, rfl, by decide +kernel, by decide +kernel⟩
theorem ok_made2 {f : Addr} {fd : FuncData} (F : FnP K "_law_made_2" 33 f fd) (Z : Facts K mg) : FnOk P w K mg base CX0 3 f fd ["_law_at", "_law_it"] (spM1 K 12 16) := by
  obtain ⟨fd12, F12⟩ := Z.i_BadLine
  have T12 := Z.T "BadLine" (by decide)
  have h12 := Z.ini "BadLine" (by decide) (by decide)
  have b12 : Binds K fd12 ["self", "part"] [] := F12.bindsN fun _ _ _ _ _ _ us hl => match us, hl with | [_, _], _ => rfl
  have k12 : KBn K fd12 ["self", "part"] 1 ["part"] (fun us ws => us ++ ws) (fun vs zs => vs ++ zs) := kb_n F12 (fun r1 r2 => r1.append r2) fun _ _ _ _ _ _ us ws l1 l2 => match us, l1, ws, l2 with | [_], _, [_], _ => rfl
  obtain ⟨fd13, F13⟩ := Z.i_OtherTexts
  have T13 := Z.T "OtherTexts" (by decide)
  have h13 := Z.ini "OtherTexts" (by decide) (by decide)
  have b13 : Binds K fd13 ["self", "text"] [] := F13.bindsN fun _ _ _ _ _ _ us hl => match us, hl with | [_, _], _ => rfl
  have k13 : KBn K fd13 ["self", "text"] 1 ["text"] (fun us ws => us ++ ws) (fun vs zs => vs ++ zs) := kb_n F13 (fun r1 r2 => r1.append r2) fun _ _ _ _ _ _ us ws l1 l2 => match us, l1, ws, l2 with | [_], _, [_], _ => rfl
  obtain ⟨fd14, F14⟩ := Z.i_BadName
  have T14 := Z.T "BadName" (by decide)
  have h14 := Z.ini "BadName" (by decide) (by decide)
  have b14 : Binds K fd14 ["self", "name"] [] := F14.bindsN fun _ _ _ _ _ _ us hl => match us, hl with | [_, _], _ => rfl
  have k14 : KBn K fd14 ["self", "name"] 1 ["name"] (fun us ws => us ++ ws) (fun vs zs => vs ++ zs) := kb_n F14 (fun r1 r2 => r1.append r2) fun _ _ _ _ _ _ us ws l1 l2 => match us, l1, ws, l2 with | [_], _, [_], _ => rfl
  obtain ⟨fd15, F15⟩ := Z.i_NoName
  have T15 := Z.T "NoName" (by decide)
  have h15 := Z.ini "NoName" (by decide) (by decide)
  have b15 : Binds K fd15 ["self", "name"] [] := F15.bindsN fun _ _ _ _ _ _ us hl => match us, hl with | [_, _], _ => rfl
  have k15 : KBn K fd15 ["self", "name"] 1 ["name"] (fun us ws => us ++ ws) (fun vs zs => vs ++ zs) := kb_n F15 (fun r1 r2 => r1.append r2) fun _ _ _ _ _ _ us ws l1 l2 => match us, l1, ws, l2 with | [_], _, [_], _ => rfl
  obtain ⟨fd16, F16⟩ := Z.i_NotAlike
  have T16 := Z.T "NotAlike" (by decide)
  have h16 := Z.ini "NotAlike" (by decide) (by decide)
  have b16 : Binds K fd16 ["self", "text"] [] := F16.bindsN fun _ _ _ _ _ _ us hl => match us, hl with | [_, _], _ => rfl
  have k16 : KBn K fd16 ["self", "text"] 1 ["text"] (fun us ws => us ++ ws) (fun vs zs => vs ++ zs) := kb_n F16 (fun r1 r2 => r1.append r2) fun _ _ _ _ _ _ us ws l1 l2 => match us, l1, ws, l2 with | [_], _, [_], _ => rfl
  refine F.ok sc_made2 (fun vs H Q E h => ?_) (fun cdv A outer s H vs Q E hr h => ?_)
  · obtain ⟨n, it, rfl, _⟩ := h; rfl
  · obtain ⟨n, it, rfl, lo, hi, kk⟩ := h
    have hr : Room 2 _ := hr
    refine ⟨_, PSs.nox (pss_cons (ps_if (pt_cmpR op_eq (pv 0) pe_int (nomark _)) (pss_one (ps_ret (pe_lst (pa_cons (pe_xmk T12 h12.1 h12.2 (ok_BadLine F12) hr b12 (by rfl) (Z.mgC "BadLine" (by decide)) (pa_cons (pv 1) pa_nil)) (pa_cons (pe_xmkK T12 h12.1 h12.2 (ok_BadLine F12) hr k12 (by rfl) (Z.mgC "BadLine" (by decide)) (pk_cons (pv 1) pk_nil)) pa_nil))))) pss_nil)
      (pss_cons (ps_if (pt_cmpR op_eq (pv 0) pe_int (nomark _)) (pss_one (ps_ret (pe_lst (pa_cons (pe_xmk T13 h13.1 h13.2 (ok_OtherTexts F13) hr b13 (by rfl) (Z.mgC "OtherTexts" (by decide)) (pa_cons (pv 1) pa_nil)) (pa_cons (pe_xmkK T13 h13.1 h13.2 (ok_OtherTexts F13) hr k13 (by rfl) (Z.mgC "OtherTexts" (by decide)) (pk_cons (pv 1) pk_nil)) pa_nil))))) pss_nil)
      (pss_cons (ps_if (pt_cmpR op_eq (pv 0) pe_int (nomark _)) (pss_one (ps_ret (pe_lst (pa_cons (pe_xmk T14 h14.1 h14.2 (ok_BadName F14) hr b14 (by rfl) (Z.mgC "BadName" (by decide)) (pa_cons (pv 1) pa_nil)) (pa_cons (pe_xmkK T14 h14.1 h14.2 (ok_BadName F14) hr k14 (by rfl) (Z.mgC "BadName" (by decide)) (pk_cons (pv 1) pk_nil)) pa_nil))))) pss_nil)
      (pss_cons (ps_if (pt_cmpR op_eq (pv 0) pe_int (nomark _)) (pss_one (ps_ret (pe_lst (pa_cons (pe_xmk T15 h15.1 h15.2 (ok_NoName F15) hr b15 (by rfl) (Z.mgC "NoName" (by decide)) (pa_cons (pv 1) pa_nil)) (pa_cons (pe_xmkK T15 h15.1 h15.2 (ok_NoName F15) hr k15 (by rfl) (Z.mgC "NoName" (by decide)) (pk_cons (pv 1) pk_nil)) pa_nil))))) pss_nil)
      (pss_one (ps_ret (pe_lst (pa_cons (pe_xmk T16 h16.1 h16.2 (ok_NotAlike F16) hr b16 (by rfl) (Z.mgC "NotAlike" (by decide)) (pa_cons (pv 1) pa_nil)) (pa_cons (pe_xmkK T16 h16.1 h16.2 (ok_NotAlike F16) hr k16 (by rfl) (Z.mgC "NotAlike" (by decide)) (pk_cons (pv 1) pk_nil)) pa_nil))))))))), ?_⟩
    have lz := line_big
    rcases (show n = 12 ∨ n = 13 ∨ n = 14 ∨ n = 15 ∨ n = 16 by omega) with rfl | rfl | rfl | rfl | rfl
    · refine ⟨_, rfl, rfl, _, rfl, iteT ⟨_, rfl, by show 1 ≤ 1000; omega, fun a ha => ⟨a, _, [it], rfl, rfl, T12, upd_same, fun H1 ev1 k1 => ⟨rfl, _, rfl, rfl, fun a2 ha2 => ⟨a2, _, [it], rfl, rfl, T12, upd_same, fun H2 ev2 k2 => ⟨rfl, by show 2 ≤ sizeLine; omega, fun p hp => ?_⟩⟩⟩⟩⟩⟩
      exact kk p a a2 _ upd_same ((ev1.same (mk_same ha2 k2)).same (sameU hp)) (ev2.same (sameU hp)) (((mk_same ha k1).trans (mk_same ha2 k2)).trans (sameU hp))
    · refine ⟨_, rfl, rfl, _, rfl, iteF ⟨_, rfl, rfl, _, rfl, iteT ⟨_, rfl, by show 1 ≤ 1000; omega, fun a ha => ⟨a, _, [it], rfl, rfl, T13, upd_same, fun H1 ev1 k1 => ⟨rfl, _, rfl, rfl, fun a2 ha2 => ⟨a2, _, [it], rfl, rfl, T13, upd_same, fun H2 ev2 k2 => ⟨rfl, by show 2 ≤ sizeLine; omega, fun p hp => ?_⟩⟩⟩⟩⟩⟩⟩
      exact kk p a a2 _ upd_same ((ev1.same (mk_same ha2 k2)).same (sameU hp)) (ev2.same (sameU hp)) (((mk_same ha k1).trans (mk_same ha2 k2)).trans (sameU hp))
    · refine ⟨_, rfl, rfl, _, rfl, iteF ⟨_, rfl, rfl, _, rfl, iteF ⟨_, rfl, rfl, _, rfl, iteT ⟨_, rfl, by show 1 ≤ 1000; omega, fun a ha => ⟨a, _, [it], rfl, rfl, T14, upd_same, fun H1 ev1 k1 => ⟨rfl, _, rfl, rfl, fun a2 ha2 => ⟨a2, _, [it], rfl, rfl, T14, upd_same, fun H2 ev2 k2 => ⟨rfl, by show 2 ≤ sizeLine; omega, fun p hp => ?_⟩⟩⟩⟩⟩⟩⟩⟩
      exact kk p a a2 _ upd_same ((ev1.same (mk_same ha2 k2)).same (sameU hp)) (ev2.same (sameU hp)) (((mk_same ha k1).trans (mk_same ha2 k2)).trans (sameU hp))
    · refine ⟨_, rfl, rfl, _, rfl, iteF ⟨_, rfl, rfl, _, rfl, iteF ⟨_, rfl, rfl, _, rfl, iteF ⟨_, rfl, rfl, _, rfl, iteT ⟨_, rfl, by show 1 ≤ 1000; omega, fun a ha => ⟨a, _, [it], rfl, rfl, T15, upd_same, fun H1 ev1 k1 => ⟨rfl, _, rfl, rfl, fun a2 ha2 => ⟨a2, _, [it], rfl, rfl, T15, upd_same, fun H2 ev2 k2 => ⟨rfl, by show 2 ≤ sizeLine; omega, fun p hp => ?_⟩⟩⟩⟩⟩⟩⟩⟩⟩
      exact kk p a a2 _ upd_same ((ev1.same (mk_same ha2 k2)).same (sameU hp)) (ev2.same (sameU hp)) (((mk_same ha k1).trans (mk_same ha2 k2)).trans (sameU hp))
    · refine ⟨_, rfl, rfl, _, rfl, iteF ⟨_, rfl, rfl, _, rfl, iteF ⟨_, rfl, rfl, _, rfl, iteF ⟨_, rfl, rfl, _, rfl, iteF ⟨_, rfl, by show 1 ≤ 1000; omega, fun a ha => ⟨a, _, [it], rfl, rfl, T16, upd_same, fun H1 ev1 k1 => ⟨rfl, _, rfl, rfl, fun a2 ha2 => ⟨a2, _, [it], rfl, rfl, T16, upd_same, fun H2 ev2 k2 => ⟨rfl, by show 2 ≤ sizeLine; omega, fun p hp => ?_⟩⟩⟩⟩⟩⟩⟩⟩⟩
      exact kk p a a2 _ upd_same ((ev1.same (mk_same ha2 k2)).same (sameU hp)) (ev2.same (sameU hp)) (((mk_same ha k1).trans (mk_same ha2 k2)).trans (sameU hp))
end
end K00
namespace K00
open PySem PySem.Spec PyProof.Rows L2 Sw
theorem g3_rel {vs : List V} {us : List Value} {zs : List V} {ws : List Value} (r1 : Vals vs us) (r2 : Vals zs ws) : Vals (g3 vs zs) (g3 us ws) := by
  cases r1 with
  | nil => exact .nil
  | cons a r1 =>
    cases r1 with
    | cons _ _ => exact .nil
    | nil =>
      cases r2 with
      | nil => exact .nil
      | cons x r2 =>
        cases r2 with
        | nil => exact .nil
        | cons y r2 =>
          cases r2 with
          | nil => exact .nil
          | cons z r2 =>
            cases r2 with
            | cons _ _ => exact .nil
            | nil => exact .cons a (.cons z (.cons y (.cons x .nil)))
theorem g2_rel {vs : List V} {us : List Value} {zs : List V} {ws : List Value} (r1 : Vals vs us) (r2 : Vals zs ws) : Vals (g2t vs zs) (g2t us ws) := by
  cases r1 with
  | nil => exact .nil
  | cons a r1 =>
    cases r1 with
    | cons _ _ => exact .nil
    | nil =>
      cases r2 with
      | nil => exact .nil
      | cons x r2 =>
        cases r2 with
        | nil => exact .nil
        | cons y r2 =>
          cases r2 with
          | cons _ _ => exact .nil
          | nil => exact .cons a (.cons y (.cons x .nil))
/-- an error stands at e -/
def Er (H : Hp) (e C : Addr) (fs : List (Str × V)) : Prop := Ev H e C fs ∨ (fs = [] ∧ H e = some (ExO (.ref C) e))
theorem Er.same {H H' : Hp} {e C : Addr} {fs : List (Str × V)} (x : Er H e C fs) (s : Same H H') : Er H' e C fs := x.imp (fun y => y.same s) fun y => ⟨y.1, s _ _ y.2⟩
theorem Er.xo {H : Hp} {e C : Addr} {fs : List (Str × V)} (x : Er H e C fs) : Xo H e C := by
  rcases x with x | ⟨_, x⟩
  · exact x.xo
  · exact .bare x
section
variable {P : Program} {w : World} {K : PySem.W.Frag} {mg : Str → Option Value} {base : Heap}
/-- two errors in a new list -/
def Two (K : PySem.W.Frag) (H : Hp) (n : Nat) (fs : List (Str × V)) (Q : VK) : Prop := ∀ p e1 e2 H', H' p = some (.lst [.ref e1, .ref e2]) → Er H' e1 (He.ga K (nmAt n)) fs → Er H' e2 (He.ga K (nmAt n)) fs → Same H H' → Q (.ref p) H'
def spBare (K : PySem.W.Frag) : Sp := fun vs H Q _ => ∃ n : Nat, vs = [.int n] ∧ 17 ≤ n ∧ n ≤ 21 ∧ Two K H n [] Q
def spWide (K : PySem.W.Frag) : Sp := fun vs H Q _ => ∃ (n : Nat) (it mate far : V), vs = [.int n, it, mate, far] ∧ 22 ≤ n ∧ n ≤ 24 ∧ Two K H n (fldsOf n it mate far) Q
def spMade (K : PySem.W.Frag) : Sp := fun vs H Q _ => ∃ (n : Nat) (it mate far : V), vs = [.int n, it, mate, far] ∧ n ≤ 24 ∧ Two K H n (fldsOf n it mate far) Q
theorem sc_bare : FnScope ["_law_at"] ["_law_at"] (defScope (top 34)) := ⟨rfl, rfl, rfl, by decide +kernel, rfl, by decide +kernel, by decide +kernel⟩
theorem ok_bare {f : Addr} {fd : FuncData} (F : FnP K "_law_bare" 34 f fd) (Z : Facts K mg) : FnOk P w K mg base CX0 1 f fd ["_law_at"] (spBare K) := by
  refine F.ok sc_bare (fun vs H Q E h => ?_) (fun cdv A outer s H vs Q E hr h => ?_)
  · obtain ⟨n, rfl, _⟩ := h; rfl
  · obtain ⟨n, rfl, lo, hi, kk⟩ := h
    refine ⟨_, PSs.nox (pss_cons (ps_if (pt_cmpR op_eq (pv 0) pe_int (nomark _)) (pss_one (ps_ret (pe_lst (pa_cons (pe_xmk0 (Z.bare "OtherTable" (by decide)) (Z.T "OtherTable" (by decide)).kp (by rfl) (Z.mgC "OtherTable" (by decide))) (pa_cons (pe_xmk0 (Z.bare "OtherTable" (by decide)) (Z.T "OtherTable" (by decide)).kp (by rfl) (Z.mgC "OtherTable" (by decide))) pa_nil))))) pss_nil)
      (pss_cons (ps_if (pt_cmpR op_eq (pv 0) pe_int (nomark _)) (pss_one (ps_ret (pe_lst (pa_cons (pe_xmk0 (Z.bare "OtherNumber" (by decide)) (Z.T "OtherNumber" (by decide)).kp (by rfl) (Z.mgC "OtherNumber" (by decide))) (pa_cons (pe_xmk0 (Z.bare "OtherNumber" (by decide)) (Z.T "OtherNumber" (by decide)).kp (by rfl) (Z.mgC "OtherNumber" (by decide))) pa_nil))))) pss_nil)
      (pss_cons (ps_if (pt_cmpR op_eq (pv 0) pe_int (nomark _)) (pss_one (ps_ret (pe_lst (pa_cons (pe_xmk0 (Z.bare "NothingToUndo" (by decide)) (Z.T "NothingToUndo" (by decide)).kp (by rfl) (Z.mgC "NothingToUndo" (by decide))) (pa_cons (pe_xmk0 (Z.bare "NothingToUndo" (by decide)) (Z.T "NothingToUndo" (by decide)).kp (by rfl) (Z.mgC "NothingToUndo" (by decide))) pa_nil))))) pss_nil)
      (pss_cons (ps_if (pt_cmpR op_eq (pv 0) pe_int (nomark _)) (pss_one (ps_ret (pe_lst (pa_cons (pe_xmk0 (Z.bare "NothingToRedo" (by decide)) (Z.T "NothingToRedo" (by decide)).kp (by rfl) (Z.mgC "NothingToRedo" (by decide))) (pa_cons (pe_xmk0 (Z.bare "NothingToRedo" (by decide)) (Z.T "NothingToRedo" (by decide)).kp (by rfl) (Z.mgC "NothingToRedo" (by decide))) pa_nil))))) pss_nil)
      (pss_one (ps_ret (pe_lst (pa_cons (pe_xmk0 (Z.bare "InvalidCommand" (by decide)) (Z.T "InvalidCommand" (by decide)).kp (by rfl) (Z.mgC "InvalidCommand" (by decide))) (pa_cons (pe_xmk0 (Z.bare "InvalidCommand" (by decide)) (Z.T "InvalidCommand" (by decide)).kp (by rfl) (Z.mgC "InvalidCommand" (by decide))) pa_nil))))))))), ?_⟩
    rcases (show n = 17 ∨ n = 18 ∨ n = 19 ∨ n = 20 ∨ n = 21 by omega) with rfl | rfl | rfl | rfl | rfl
    · refine ⟨_, rfl, rfl, _, rfl, iteT (fun a ha => fun a2 ha2 => ⟨by show 2 ≤ 16777216; omega, fun p hp => ?_⟩)⟩
      exact kk p a a2 _ upd_same (.inr ⟨rfl, upS (upS upd_same ha2) hp⟩) (.inr ⟨rfl, upS upd_same hp⟩) (((sameU ha).trans (sameU ha2)).trans (sameU hp))
    · refine ⟨_, rfl, rfl, _, rfl, iteF ⟨_, rfl, rfl, _, rfl, iteT (fun a ha => fun a2 ha2 => ⟨by show 2 ≤ 16777216; omega, fun p hp => ?_⟩)⟩⟩
      exact kk p a a2 _ upd_same (.inr ⟨rfl, upS (upS upd_same ha2) hp⟩) (.inr ⟨rfl, upS upd_same hp⟩) (((sameU ha).trans (sameU ha2)).trans (sameU hp))
    · refine ⟨_, rfl, rfl, _, rfl, iteF ⟨_, rfl, rfl, _, rfl, iteF ⟨_, rfl, rfl, _, rfl, iteT (fun a ha => fun a2 ha2 => ⟨by show 2 ≤ 16777216; omega, fun p hp => ?_⟩)⟩⟩⟩
      exact kk p a a2 _ upd_same (.inr ⟨rfl, upS (upS upd_same ha2) hp⟩) (.inr ⟨rfl, upS upd_same hp⟩) (((sameU ha).trans (sameU ha2)).trans (sameU hp))
    · refine ⟨_, rfl, rfl, _, rfl, iteF ⟨_, rfl, rfl, _, rfl, iteF ⟨_, rfl, rfl, _, rfl, iteF ⟨_, rfl, rfl, _, rfl, iteT (fun a ha => fun a2 ha2 => ⟨by show 2 ≤ 16777216; omega, fun p hp => ?_⟩)⟩⟩⟩⟩
      exact kk p a a2 _ upd_same (.inr ⟨rfl, upS (upS upd_same ha2) hp⟩) (.inr ⟨rfl, upS upd_same hp⟩) (((sameU ha).trans (sameU ha2)).trans (sameU hp))
    · refine ⟨_, rfl, rfl, _, rfl, iteF ⟨_, rfl, rfl, _, rfl, iteF ⟨_, rfl, rfl, _, rfl, iteF ⟨_, rfl, rfl, _, rfl, iteF (fun a ha => fun a2 ha2 => ⟨by show 2 ≤ 16777216; omega, fun p hp => ?_⟩)⟩⟩⟩⟩
      exact kk p a a2 _ upd_same (.inr ⟨rfl, upS (upS upd_same ha2) hp⟩) (.inr ⟨rfl, upS upd_same hp⟩) (((sameU ha).trans (sameU ha2)).trans (sameU hp))
theorem sc_wide : FnScope ["_law_at", "_law_it", "_law_mate", "_law_far"] ["_law_at", "_law_it", "_law_mate", "_law_far"] (defScope (top 35)) := ⟨rfl, rfl, rfl, by decide +kernel, rfl, by decide +kernel, by decide +kernel⟩
theorem ok_wide {f : Addr} {fd : FuncData} (F : FnP K "_law_wide" 35 f fd) (Z : Facts K mg) : FnOk P w K mg base CX0 3 f fd ["_law_at", "_law_it", "_law_mate", "_law_far"] (spWide K) := by
  obtain ⟨fd22, F22⟩ := Z.i_Silent
  have T22 := Z.T "Silent" (by decide)
  have h22 := Z.ini "Silent" (by decide) (by decide)
  have b22 : Binds K fd22 ["self", "text", "loop", "rest"] [] := F22.bindsN fun _ _ _ _ _ _ us hl => match us, hl with | [_, _, _, _], _ => rfl
  have k22 : KBn K fd22 ["self", "text", "loop", "rest"] 1 ["rest", "loop", "text"] g3 g3 := kb_n F22 (fun r1 r2 => g3_rel r1 r2) fun _ _ _ _ _ _ us ws l1 l2 => match us, l1, ws, l2 with | [_], _, [_, _, _], _ => rfl
  obtain ⟨fd23, F23⟩ := Z.i_Twins
  have T23 := Z.T "Twins" (by decide)
  have h23 := Z.ini "Twins" (by decide) (by decide)
  have b23 : Binds K fd23 ["self", "text", "other", "answer"] [] := F23.bindsN fun _ _ _ _ _ _ us hl => match us, hl with | [_, _, _, _], _ => rfl
  have k23 : KBn K fd23 ["self", "text", "other", "answer"] 1 ["answer", "other", "text"] g3 g3 := kb_n F23 (fun r1 r2 => g3_rel r1 r2) fun _ _ _ _ _ _ us ws l1 l2 => match us, l1, ws, l2 with | [_], _, [_, _, _], _ => rfl
  obtain ⟨fd24, F24⟩ := Z.i_Stops
  have T24 := Z.T "Stops" (by decide)
  have h24 := Z.ini "Stops" (by decide) (by decide)
  have b24 : Binds K fd24 ["self", "index", "text"] [] := F24.bindsN fun _ _ _ _ _ _ us hl => match us, hl with | [_, _, _], _ => rfl
  have k24 : KBn K fd24 ["self", "index", "text"] 1 ["text", "index"] g2t g2t := kb_n F24 (fun r1 r2 => g2_rel r1 r2) fun _ _ _ _ _ _ us ws l1 l2 => match us, l1, ws, l2 with | [_], _, [_, _], _ => rfl
  refine F.ok sc_wide (fun vs H Q E h => ?_) (fun cdv A outer s H vs Q E hr h => ?_)
  · obtain ⟨n, it, mate, far, rfl, _⟩ := h; rfl
  · obtain ⟨n, it, mate, far, rfl, lo, hi, kk⟩ := h
    have hr : Room 2 _ := hr
    refine ⟨_, PSs.nox (pss_cons (ps_if (pt_cmpR op_eq (pv 0) pe_int (nomark _)) (pss_one (ps_ret (pe_lst (pa_cons (pe_xmk T22 h22.1 h22.2 (ok_Silent F22) hr b22 (by rfl) (Z.mgC "Silent" (by decide)) (pa_cons (pv 1) (pa_cons (pv 2) (pa_cons (pv 3) pa_nil)))) (pa_cons (pe_xmkK T22 h22.1 h22.2 (ok_Silent F22) hr k22 (by rfl) (Z.mgC "Silent" (by decide)) (pk_cons (pv 3) (pk_cons (pv 2) (pk_cons (pv 1) pk_nil)))) pa_nil))))) pss_nil)
      (pss_cons (ps_if (pt_cmpR op_eq (pv 0) pe_int (nomark _)) (pss_one (ps_ret (pe_lst (pa_cons (pe_xmk T23 h23.1 h23.2 (ok_Twins F23) hr b23 (by rfl) (Z.mgC "Twins" (by decide)) (pa_cons (pv 1) (pa_cons (pv 2) (pa_cons (pv 3) pa_nil)))) (pa_cons (pe_xmkK T23 h23.1 h23.2 (ok_Twins F23) hr k23 (by rfl) (Z.mgC "Twins" (by decide)) (pk_cons (pv 3) (pk_cons (pv 2) (pk_cons (pv 1) pk_nil)))) pa_nil))))) pss_nil)
      (pss_one (ps_ret (pe_lst (pa_cons (pe_xmk T24 h24.1 h24.2 (ok_Stops F24) hr b24 (by rfl) (Z.mgC "Stops" (by decide)) (pa_cons (pv 1) (pa_cons (pv 2) pa_nil))) (pa_cons (pe_xmkK T24 h24.1 h24.2 (ok_Stops F24) hr k24 (by rfl) (Z.mgC "Stops" (by decide)) (pk_cons (pv 2) (pk_cons (pv 1) pk_nil))) pa_nil))))))), ?_⟩
    rcases (show n = 22 ∨ n = 23 ∨ n = 24 by omega) with rfl | rfl | rfl
    · refine ⟨_, rfl, rfl, _, rfl, iteT ⟨_, rfl, _, rfl, _, rfl, by show 3 ≤ 1000; omega, fun a ha => ⟨a, _, [it, mate, far], rfl, rfl, T22, upd_same, fun H1 ev1 k1 => ⟨rfl, _, rfl, _, rfl, _, rfl, rfl, fun a2 ha2 => ⟨a2, _, [it, mate, far], rfl, rfl, T22, upd_same, fun H2 ev2 k2 => ⟨rfl, by show 2 ≤ 16777216; omega, fun p hp => ?_⟩⟩⟩⟩⟩⟩
      exact kk p a a2 _ upd_same (.inl ((ev1.same (mk_same ha2 k2)).same (sameU hp))) (.inl (ev2.same (sameU hp))) (((mk_same ha k1).trans (mk_same ha2 k2)).trans (sameU hp))
    · refine ⟨_, rfl, rfl, _, rfl, iteF ⟨_, rfl, rfl, _, rfl, iteT ⟨_, rfl, _, rfl, _, rfl, by show 3 ≤ 1000; omega, fun a ha => ⟨a, _, [it, mate, far], rfl, rfl, T23, upd_same, fun H1 ev1 k1 => ⟨rfl, _, rfl, _, rfl, _, rfl, rfl, fun a2 ha2 => ⟨a2, _, [it, mate, far], rfl, rfl, T23, upd_same, fun H2 ev2 k2 => ⟨rfl, by show 2 ≤ 16777216; omega, fun p hp => ?_⟩⟩⟩⟩⟩⟩⟩
      exact kk p a a2 _ upd_same (.inl ((ev1.same (mk_same ha2 k2)).same (sameU hp))) (.inl (ev2.same (sameU hp))) (((mk_same ha k1).trans (mk_same ha2 k2)).trans (sameU hp))
    · refine ⟨_, rfl, rfl, _, rfl, iteF ⟨_, rfl, rfl, _, rfl, iteF ⟨_, rfl, _, rfl, by show 2 ≤ 1000; omega, fun a ha => ⟨a, _, [it, mate], rfl, rfl, T24, upd_same, fun H1 ev1 k1 => ⟨rfl, _, rfl, _, rfl, rfl, fun a2 ha2 => ⟨a2, _, [it, mate], rfl, rfl, T24, upd_same, fun H2 ev2 k2 => ⟨rfl, by show 2 ≤ 16777216; omega, fun p hp => ?_⟩⟩⟩⟩⟩⟩⟩
      exact kk p a a2 _ upd_same (.inl ((ev1.same (mk_same ha2 k2)).same (sameU hp))) (.inl (ev2.same (sameU hp))) (((mk_same ha k1).trans (mk_same ha2 k2)).trans (sameU hp))
theorem sc_made : FnScope ["_law_at", "_law_it", "_law_mate", "_law_far"] ["_law_at", "_law_it", "_law_mate", "_law_far"] (defScope (top 36)) := ⟨rfl, rfl, rfl, by decide +kernel, rfl, by decide +kernel, by decide +kernel⟩
theorem ok_made {f f0 f1 f2 f3 f4 : Addr} {fd fd0 fd1 fd2 fd3 fd4 : FuncData} (F : FnP K "_law_made" 36 f fd) (F0 : FnP K "_law_made_0" 31 f0 fd0) (F1 : FnP K "_law_made_1" 32 f1 fd1) (F2 : FnP K "_law_made_2" 33 f2 fd2) (F3 : FnP K "_law_bare" 34 f3 fd3) (F4 : FnP K "_law_wide" 35 f4 fd4)
    (m0 : mg "_law_made_0" = some (.ref f0)) (m1 : mg "_law_made_1" = some (.ref f1)) (m2 : mg "_law_made_2" = some (.ref f2)) (m3 : mg "_law_bare" = some (.ref f3)) (m4 : mg "_law_wide" = some (.ref f4)) (Z : Facts K mg) :
    FnOk P w K mg base CX0 4 f fd ["_law_at", "_law_it", "_law_mate", "_law_far"] (spMade K) := by
  have G0 : FnOk P w K mg base CX0 3 f0 fd0 ["_law_at", "_law_it"] (spM1 K 0 5) := ok_made0 F0 Z
  have G1 : FnOk P w K mg base CX0 3 f1 fd1 ["_law_at", "_law_it"] (spM1 K 6 11) := ok_made1 F1 Z
  have G2 : FnOk P w K mg base CX0 3 f2 fd2 ["_law_at", "_law_it"] (spM1 K 12 16) := ok_made2 F2 Z
  have G3 : FnOk P w K mg base CX0 1 f3 fd3 ["_law_at"] (spBare K) := ok_bare F3 Z
  have G4 : FnOk P w K mg base CX0 3 f4 fd4 ["_law_at", "_law_it", "_law_mate", "_law_far"] (spWide K) := ok_wide F4 Z
  have b0 : Binds K fd0 ["_law_at", "_law_it"] [] := F0.bindsN fun _ _ _ _ _ _ us hl => match us, hl with | [_, _], _ => rfl
  have b1 : Binds K fd1 ["_law_at", "_law_it"] [] := F1.bindsN fun _ _ _ _ _ _ us hl => match us, hl with | [_, _], _ => rfl
  have b2 : Binds K fd2 ["_law_at", "_law_it"] [] := F2.bindsN fun _ _ _ _ _ _ us hl => match us, hl with | [_, _], _ => rfl
  have b3 : Binds K fd3 ["_law_at"] [] := F3.bindsN fun _ _ _ _ _ _ us hl => match us, hl with | [_], _ => rfl
  have b4 : Binds K fd4 ["_law_at", "_law_it", "_law_mate", "_law_far"] [] := F4.bindsN fun _ _ _ _ _ _ us hl => match us, hl with | [_, _, _, _], _ => rfl
  refine F.ok sc_made (fun vs H Q E h => ?_) (fun cdv A outer s H vs Q E hr h => ?_)
  · obtain ⟨n, it, mate, far, rfl, _⟩ := h; rfl
  · obtain ⟨n, it, mate, far, rfl, hi, kk⟩ := h
    refine ⟨_, PSs.nox (pss_cons (ps_if (pt_cmpR op_lt (pv 0) pe_int (nomark _)) (pss_one (ps_ret (pe_call G0 hr (by rfl) m0 F0.kp b0 .nil pass0 (pa_cons (pv 0) (pa_cons (pv 1) pa_nil))))) pss_nil)
      (pss_cons (ps_if (pt_cmpR op_lt (pv 0) pe_int (nomark _)) (pss_one (ps_ret (pe_call G1 hr (by rfl) m1 F1.kp b1 .nil pass0 (pa_cons (pv 0) (pa_cons (pv 1) pa_nil))))) pss_nil)
      (pss_cons (ps_if (pt_cmpR op_lt (pv 0) pe_int (nomark _)) (pss_one (ps_ret (pe_call G2 hr (by rfl) m2 F2.kp b2 .nil pass0 (pa_cons (pv 0) (pa_cons (pv 1) pa_nil))))) pss_nil)
      (pss_one (ps_ret (pe_ifExp (pt_cmpR op_lt (pv 0) pe_int (nomark _)) (pe_call G3 (hr.mono (by decide)) (by rfl) m3 F3.kp b3 .nil pass0 (pa_cons (pv 0) pa_nil))
        (pe_call G4 hr (by rfl) m4 F4.kp b4 .nil pass0 (pa_cons (pv 0) (pa_cons (pv 1) (pa_cons (pv 2) (pa_cons (pv 3) pa_nil))))))))))), ?_⟩
    have low : n < 17 → fldsOf n it mate far = [(fldAt n, it)] := fun h => if_pos h
    refine ⟨_, rfl, _, _, rfl, rfl, _, rfl, ite2 (fun h => ?_) (fun h => ?_)⟩
    · have h : (n : Int) < 6 := of_decide_eq_true h
      exact ⟨_, rfl, _, rfl, n, it, rfl, by omega, by omega, fun p e1 e2 H' hp h1 h2 s => kk p e1 e2 H' hp (by rw [low (by omega)]; exact .inl h1) (by rw [low (by omega)]; exact .inl h2) s⟩
    have h : ¬ (n : Int) < 6 := of_decide_eq_false (by simpa using h)
    refine ⟨_, rfl, _, _, rfl, rfl, _, rfl, ite2 (fun h => ?_) (fun h => ?_)⟩
    · have h : (n : Int) < 12 := of_decide_eq_true h
      exact ⟨_, rfl, _, rfl, n, it, rfl, by omega, by omega, fun p e1 e2 H' hp h1 h2 s => kk p e1 e2 H' hp (by rw [low (by omega)]; exact .inl h1) (by rw [low (by omega)]; exact .inl h2) s⟩
    have h : ¬ (n : Int) < 12 := of_decide_eq_false (by simpa using h)
    refine ⟨_, rfl, _, _, rfl, rfl, _, rfl, ite2 (fun h => ?_) (fun h => ?_)⟩
    · have h : (n : Int) < 17 := of_decide_eq_true h
      exact ⟨_, rfl, _, rfl, n, it, rfl, by omega, by omega, fun p e1 e2 H' hp h1 h2 s => kk p e1 e2 H' hp (by rw [low (by omega)]; exact .inl h1) (by rw [low (by omega)]; exact .inl h2) s⟩
    have h : ¬ (n : Int) < 17 := of_decide_eq_false (by simpa using h)
    refine ⟨_, rfl, _, _, rfl, rfl, _, rfl, ite2 (fun h => ?_) (fun h => ?_)⟩
    · have h : (n : Int) < 22 := of_decide_eq_true h
      have e : fldsOf n it mate far = [] := by
        unfold fldsOf
        rw [if_neg (by omega), if_neg (by omega), if_neg (by omega), if_neg (by omega)]
      exact ⟨_, rfl, n, rfl, by omega, by omega, by rw [← e]; exact kk⟩
    · have h : ¬ (n : Int) < 22 := of_decide_eq_false (by simpa using h)
      exact ⟨_, rfl, _, rfl, _, rfl, _, rfl, n, it, mate, far, rfl, by omega, hi, kk⟩
end
end K00
namespace K00
open PySem PySem.Spec PyProof.Rows L2 Sw
def dueOf (n : Nat) (it mate far : V) : List V := if n < 17 then [it] else if n = 22 then [it, mate, far] else if n = 23 then [it, mate, far] else if n = 24 then [it, mate] else []
section
variable {P : Program} {w : World} {K : PySem.W.Frag} {mg : Str → Option Value} {base : Heap}
def spKept (K : PySem.W.Frag) : Sp := fun vs H Q _ => ∃ (n : Nat) (e : Addr) (it mate far : V), vs = [.int n, .ref e] ∧ n ≤ 24 ∧ Er H e (He.ga K (nmAt n)) (fldsOf n it mate far) ∧ ∀ p H', Same H H' → H' p = some (.lst (dueOf n it mate far)) → Q (.ref p) H'
theorem sc_kept : FnScope ["_law_at", "_law_e"] ["_law_at", "_law_e"] (defScope (top 37)) := ⟨rfl, rfl, rfl, by decide +kernel, rfl, by decide +kernel, by decide +kernel⟩
theorem er_ev {H : Hp} {e C : Addr} {fs : List (Str × V)} (x : Er H e C fs) (h : fs ≠ []) : Ev H e C fs := x.elim id fun y => absurd y.1 h
theorem ok_kept {f : Addr} {fd : FuncData} (F : FnP K "_law_kept" 37 f fd) (Z : Facts K mg) : FnOk P w K mg base CX0 1 f fd ["_law_at", "_law_e"] (spKept K) := by
  refine F.ok sc_kept (fun vs H Q E h => ?_) (fun cdv A outer s H vs Q E hr h => ?_)
  · obtain ⟨n, e, it, mate, far, rfl, _⟩ := h; rfl
  · obtain ⟨n, e, it, mate, far, rfl, hi, er, kk⟩ := h
    refine ⟨_, PSs.nox (pss_cons (ps_if (pt_cmpR op_in_seq (pv 0) (pe_tup (pa_cons pe_int (pa_cons pe_int (pa_cons pe_int (pa_cons pe_int (pa_cons pe_int pa_nil)))))) rfl) (pss_one (ps_ret (pe_lst (pa_cons (pe_xat (pv 1)) pa_nil)))) pss_nil)
      (pss_cons (ps_if (pt_cmpR op_in_seq (pv 0) (pe_tup (pa_cons pe_int (pa_cons pe_int (pa_cons pe_int pa_nil)))) rfl) (pss_one (ps_ret (pe_lst (pa_cons (pe_xat (pv 1)) pa_nil)))) pss_nil)
      (pss_cons (ps_if (pt_cmpR op_in_seq (pv 0) (pe_tup (pa_cons pe_int (pa_cons pe_int (pa_cons pe_int (pa_cons pe_int (pa_cons pe_int pa_nil)))))) rfl) (pss_one (ps_ret (pe_lst (pa_cons (pe_xat (pv 1)) pa_nil)))) pss_nil)
      (pss_cons (ps_if (pt_cmpR op_in_seq (pv 0) (pe_tup (pa_cons pe_int (pa_cons pe_int pa_nil))) rfl) (pss_one (ps_ret (pe_lst (pa_cons (pe_xat (pv 1)) pa_nil)))) pss_nil)
      (pss_cons (ps_if (pt_cmpR op_lt (pv 0) pe_int (nomark _)) (pss_one (ps_ret (pe_lst (pa_cons (pe_ifExp (pt_cmpR op_eq (pv 0) pe_int (nomark _)) (pe_xat (pv 1)) (pe_xat (pv 1))) pa_nil)))) pss_nil)
      (pss_cons (ps_if (pt_cmpR op_lt (pv 0) pe_int (nomark _)) (pss_one (ps_ret (pe_lst pa_nil))) pss_nil)
      (pss_cons (ps_if (pt_cmpR op_eq (pv 0) pe_int (nomark _)) (pss_one (ps_ret (pe_lst (pa_cons (pe_xat (pv 1)) (pa_cons (pe_xat (pv 1)) (pa_cons (pe_xat (pv 1)) pa_nil)))))) pss_nil)
      (pss_one (ps_ret (pe_ifExp (pt_cmpR op_eq (pv 0) pe_int (nomark _)) (pe_lst (pa_cons (pe_xat (pv 1)) (pa_cons (pe_xat (pv 1)) (pa_cons (pe_xat (pv 1)) pa_nil)))) (pe_lst (pa_cons (pe_xat (pv 1)) (pa_cons (pe_xat (pv 1)) pa_nil))))))))))))), ?_⟩
    rcases (show n = 0 ∨ n = 1 ∨ n = 2 ∨ n = 3 ∨ n = 4 ∨ n = 5 ∨ n = 6 ∨ n = 7 ∨ n = 8 ∨ n = 9 ∨ n = 10 ∨ n = 11 ∨ n = 12 ∨ n = 13 ∨ n = 14 ∨ n = 15 ∨ n = 16 ∨ n = 17 ∨ n = 18 ∨ n = 19 ∨ n = 20 ∨ n = 21 ∨ n = 22 ∨ n = 23 ∨ n = 24 by omega) with rfl | rfl | rfl | rfl | rfl | rfl | rfl | rfl | rfl | rfl | rfl | rfl | rfl | rfl | rfl | rfl | rfl | rfl | rfl | rfl | rfl | rfl | rfl | rfl | rfl
    · have T := Z.T "BadFormat" (by decide)
      obtain ⟨d, _, h1, h2⟩ := er_ev er (by simp [fldsOf])
      exact ⟨_, rfl, by show 5 ≤ 16777216; omega, fun p0 hp0 => ⟨p0, _, rfl, .inr (SqT.of upd_same), rfl, rfl, _, rfl, iteT ⟨_, rfl, e, _, d, _, it, rfl, T, (upS h1 hp0), (upS h2 hp0), by decide, rfl, by show 1 ≤ 16777216; omega, fun p hp => kk p _ (Same.trans (Same.trans (Same.refl H) (sameU hp0)) (sameU hp)) upd_same⟩⟩⟩
    · have T := Z.T "BadText" (by decide)
      obtain ⟨d, _, h1, h2⟩ := er_ev er (by simp [fldsOf])
      exact ⟨_, rfl, by show 5 ≤ 16777216; omega, fun p0 hp0 => ⟨p0, _, rfl, .inr (SqT.of upd_same), rfl, rfl, _, rfl, iteF ⟨_, rfl, by show 3 ≤ 16777216; omega, fun p1 hp1 => ⟨p1, _, rfl, .inr (SqT.of upd_same), rfl, rfl, _, rfl, iteT ⟨_, rfl, e, _, d, _, it, rfl, T, (upS (upS h1 hp0) hp1), (upS (upS h2 hp0) hp1), by decide, rfl, by show 1 ≤ 16777216; omega, fun p hp => kk p _ (Same.trans (Same.trans (Same.trans (Same.refl H) (sameU hp0)) (sameU hp1)) (sameU hp)) upd_same⟩⟩⟩⟩⟩
    · have T := Z.T "BadTranslator" (by decide)
      obtain ⟨d, _, h1, h2⟩ := er_ev er (by simp [fldsOf])
      exact ⟨_, rfl, by show 5 ≤ 16777216; omega, fun p0 hp0 => ⟨p0, _, rfl, .inr (SqT.of upd_same), rfl, rfl, _, rfl, iteT ⟨_, rfl, e, _, d, _, it, rfl, T, (upS h1 hp0), (upS h2 hp0), by decide, rfl, by show 1 ≤ 16777216; omega, fun p hp => kk p _ (Same.trans (Same.trans (Same.refl H) (sameU hp0)) (sameU hp)) upd_same⟩⟩⟩
    · have T := Z.T "NotSure" (by decide)
      obtain ⟨d, _, h1, h2⟩ := er_ev er (by simp [fldsOf])
      exact ⟨_, rfl, by show 5 ≤ 16777216; omega, fun p0 hp0 => ⟨p0, _, rfl, .inr (SqT.of upd_same), rfl, rfl, _, rfl, iteF ⟨_, rfl, by show 3 ≤ 16777216; omega, fun p1 hp1 => ⟨p1, _, rfl, .inr (SqT.of upd_same), rfl, rfl, _, rfl, iteF ⟨_, rfl, by show 5 ≤ 16777216; omega, fun p2 hp2 => ⟨p2, _, rfl, .inr (SqT.of upd_same), rfl, rfl, _, rfl, iteF ⟨_, rfl, by show 2 ≤ 16777216; omega, fun p3 hp3 => ⟨p3, _, rfl, .inr (SqT.of upd_same), rfl, rfl, _, rfl, iteF ⟨_, rfl, _, _, rfl, rfl, _, rfl, iteT ⟨_, rfl, rfl, _, rfl, iteT ⟨_, rfl, e, _, d, _, it, rfl, T, (upS (upS (upS (upS h1 hp0) hp1) hp2) hp3), (upS (upS (upS (upS h2 hp0) hp1) hp2) hp3), by decide, rfl, by show 1 ≤ 16777216; omega, fun p hp => kk p _ (Same.trans (Same.trans (Same.trans (Same.trans (Same.trans (Same.refl H) (sameU hp0)) (sameU hp1)) (sameU hp2)) (sameU hp3)) (sameU hp)) upd_same⟩⟩⟩⟩⟩⟩⟩⟩⟩⟩⟩
    · have T := Z.T "BadReader" (by decide)
      obtain ⟨d, _, h1, h2⟩ := er_ev er (by simp [fldsOf])
      exact ⟨_, rfl, by show 5 ≤ 16777216; omega, fun p0 hp0 => ⟨p0, _, rfl, .inr (SqT.of upd_same), rfl, rfl, _, rfl, iteT ⟨_, rfl, e, _, d, _, it, rfl, T, (upS h1 hp0), (upS h2 hp0), by decide, rfl, by show 1 ≤ 16777216; omega, fun p hp => kk p _ (Same.trans (Same.trans (Same.refl H) (sameU hp0)) (sameU hp)) upd_same⟩⟩⟩
    · have T := Z.T "Drifts" (by decide)
      obtain ⟨d, _, h1, h2⟩ := er_ev er (by simp [fldsOf])
      exact ⟨_, rfl, by show 5 ≤ 16777216; omega, fun p0 hp0 => ⟨p0, _, rfl, .inr (SqT.of upd_same), rfl, rfl, _, rfl, iteF ⟨_, rfl, by show 3 ≤ 16777216; omega, fun p1 hp1 => ⟨p1, _, rfl, .inr (SqT.of upd_same), rfl, rfl, _, rfl, iteF ⟨_, rfl, by show 5 ≤ 16777216; omega, fun p2 hp2 => ⟨p2, _, rfl, .inr (SqT.of upd_same), rfl, rfl, _, rfl, iteF ⟨_, rfl, by show 2 ≤ 16777216; omega, fun p3 hp3 => ⟨p3, _, rfl, .inr (SqT.of upd_same), rfl, rfl, _, rfl, iteF ⟨_, rfl, _, _, rfl, rfl, _, rfl, iteT ⟨_, rfl, rfl, _, rfl, iteF ⟨_, rfl, e, _, d, _, it, rfl, T, (upS (upS (upS (upS h1 hp0) hp1) hp2) hp3), (upS (upS (upS (upS h2 hp0) hp1) hp2) hp3), by decide, rfl, by show 1 ≤ 16777216; omega, fun p hp => kk p _ (Same.trans (Same.trans (Same.trans (Same.trans (Same.trans (Same.refl H) (sameU hp0)) (sameU hp1)) (sameU hp2)) (sameU hp3)) (sameU hp)) upd_same⟩⟩⟩⟩⟩⟩⟩⟩⟩⟩⟩
    · have T := Z.T "BadPiece" (by decide)
      obtain ⟨d, _, h1, h2⟩ := er_ev er (by simp [fldsOf])
      exact ⟨_, rfl, by show 5 ≤ 16777216; omega, fun p0 hp0 => ⟨p0, _, rfl, .inr (SqT.of upd_same), rfl, rfl, _, rfl, iteF ⟨_, rfl, by show 3 ≤ 16777216; omega, fun p1 hp1 => ⟨p1, _, rfl, .inr (SqT.of upd_same), rfl, rfl, _, rfl, iteT ⟨_, rfl, e, _, d, _, it, rfl, T, (upS (upS h1 hp0) hp1), (upS (upS h2 hp0) hp1), by decide, rfl, by show 1 ≤ 16777216; omega, fun p hp => kk p _ (Same.trans (Same.trans (Same.trans (Same.refl H) (sameU hp0)) (sameU hp1)) (sameU hp)) upd_same⟩⟩⟩⟩⟩
    · have T := Z.T "NoAnswer" (by decide)
      obtain ⟨d, _, h1, h2⟩ := er_ev er (by simp [fldsOf])
      exact ⟨_, rfl, by show 5 ≤ 16777216; omega, fun p0 hp0 => ⟨p0, _, rfl, .inr (SqT.of upd_same), rfl, rfl, _, rfl, iteF ⟨_, rfl, by show 3 ≤ 16777216; omega, fun p1 hp1 => ⟨p1, _, rfl, .inr (SqT.of upd_same), rfl, rfl, _, rfl, iteF ⟨_, rfl, by show 5 ≤ 16777216; omega, fun p2 hp2 => ⟨p2, _, rfl, .inr (SqT.of upd_same), rfl, rfl, _, rfl, iteT ⟨_, rfl, e, _, d, _, it, rfl, T, (upS (upS (upS h1 hp0) hp1) hp2), (upS (upS (upS h2 hp0) hp1) hp2), by decide, rfl, by show 1 ≤ 16777216; omega, fun p hp => kk p _ (Same.trans (Same.trans (Same.trans (Same.trans (Same.refl H) (sameU hp0)) (sameU hp1)) (sameU hp2)) (sameU hp)) upd_same⟩⟩⟩⟩⟩⟩⟩
    · have T := Z.T "NoRest" (by decide)
      obtain ⟨d, _, h1, h2⟩ := er_ev er (by simp [fldsOf])
      exact ⟨_, rfl, by show 5 ≤ 16777216; omega, fun p0 hp0 => ⟨p0, _, rfl, .inr (SqT.of upd_same), rfl, rfl, _, rfl, iteF ⟨_, rfl, by show 3 ≤ 16777216; omega, fun p1 hp1 => ⟨p1, _, rfl, .inr (SqT.of upd_same), rfl, rfl, _, rfl, iteF ⟨_, rfl, by show 5 ≤ 16777216; omega, fun p2 hp2 => ⟨p2, _, rfl, .inr (SqT.of upd_same), rfl, rfl, _, rfl, iteT ⟨_, rfl, e, _, d, _, it, rfl, T, (upS (upS (upS h1 hp0) hp1) hp2), (upS (upS (upS h2 hp0) hp1) hp2), by decide, rfl, by show 1 ≤ 16777216; omega, fun p hp => kk p _ (Same.trans (Same.trans (Same.trans (Same.trans (Same.refl H) (sameU hp0)) (sameU hp1)) (sameU hp2)) (sameU hp)) upd_same⟩⟩⟩⟩⟩⟩⟩
    · have T := Z.T "BadMarking" (by decide)
      obtain ⟨d, _, h1, h2⟩ := er_ev er (by simp [fldsOf])
      exact ⟨_, rfl, by show 5 ≤ 16777216; omega, fun p0 hp0 => ⟨p0, _, rfl, .inr (SqT.of upd_same), rfl, rfl, _, rfl, iteT ⟨_, rfl, e, _, d, _, it, rfl, T, (upS h1 hp0), (upS h2 hp0), by decide, rfl, by show 1 ≤ 16777216; omega, fun p hp => kk p _ (Same.trans (Same.trans (Same.refl H) (sameU hp0)) (sameU hp)) upd_same⟩⟩⟩
    · have T := Z.T "BadPlace" (by decide)
      obtain ⟨d, _, h1, h2⟩ := er_ev er (by simp [fldsOf])
      exact ⟨_, rfl, by show 5 ≤ 16777216; omega, fun p0 hp0 => ⟨p0, _, rfl, .inr (SqT.of upd_same), rfl, rfl, _, rfl, iteF ⟨_, rfl, by show 3 ≤ 16777216; omega, fun p1 hp1 => ⟨p1, _, rfl, .inr (SqT.of upd_same), rfl, rfl, _, rfl, iteT ⟨_, rfl, e, _, d, _, it, rfl, T, (upS (upS h1 hp0) hp1), (upS (upS h2 hp0) hp1), by decide, rfl, by show 1 ≤ 16777216; omega, fun p hp => kk p _ (Same.trans (Same.trans (Same.trans (Same.refl H) (sameU hp0)) (sameU hp1)) (sameU hp)) upd_same⟩⟩⟩⟩⟩
    · have T := Z.T "BadWord" (by decide)
      obtain ⟨d, _, h1, h2⟩ := er_ev er (by simp [fldsOf])
      exact ⟨_, rfl, by show 5 ≤ 16777216; omega, fun p0 hp0 => ⟨p0, _, rfl, .inr (SqT.of upd_same), rfl, rfl, _, rfl, iteF ⟨_, rfl, by show 3 ≤ 16777216; omega, fun p1 hp1 => ⟨p1, _, rfl, .inr (SqT.of upd_same), rfl, rfl, _, rfl, iteF ⟨_, rfl, by show 5 ≤ 16777216; omega, fun p2 hp2 => ⟨p2, _, rfl, .inr (SqT.of upd_same), rfl, rfl, _, rfl, iteT ⟨_, rfl, e, _, d, _, it, rfl, T, (upS (upS (upS h1 hp0) hp1) hp2), (upS (upS (upS h2 hp0) hp1) hp2), by decide, rfl, by show 1 ≤ 16777216; omega, fun p hp => kk p _ (Same.trans (Same.trans (Same.trans (Same.trans (Same.refl H) (sameU hp0)) (sameU hp1)) (sameU hp2)) (sameU hp)) upd_same⟩⟩⟩⟩⟩⟩⟩
    · have T := Z.T "BadLine" (by decide)
      obtain ⟨d, _, h1, h2⟩ := er_ev er (by simp [fldsOf])
      exact ⟨_, rfl, by show 5 ≤ 16777216; omega, fun p0 hp0 => ⟨p0, _, rfl, .inr (SqT.of upd_same), rfl, rfl, _, rfl, iteT ⟨_, rfl, e, _, d, _, it, rfl, T, (upS h1 hp0), (upS h2 hp0), by decide, rfl, by show 1 ≤ 16777216; omega, fun p hp => kk p _ (Same.trans (Same.trans (Same.refl H) (sameU hp0)) (sameU hp)) upd_same⟩⟩⟩
    · have T := Z.T "OtherTexts" (by decide)
      obtain ⟨d, _, h1, h2⟩ := er_ev er (by simp [fldsOf])
      exact ⟨_, rfl, by show 5 ≤ 16777216; omega, fun p0 hp0 => ⟨p0, _, rfl, .inr (SqT.of upd_same), rfl, rfl, _, rfl, iteF ⟨_, rfl, by show 3 ≤ 16777216; omega, fun p1 hp1 => ⟨p1, _, rfl, .inr (SqT.of upd_same), rfl, rfl, _, rfl, iteF ⟨_, rfl, by show 5 ≤ 16777216; omega, fun p2 hp2 => ⟨p2, _, rfl, .inr (SqT.of upd_same), rfl, rfl, _, rfl, iteT ⟨_, rfl, e, _, d, _, it, rfl, T, (upS (upS (upS h1 hp0) hp1) hp2), (upS (upS (upS h2 hp0) hp1) hp2), by decide, rfl, by show 1 ≤ 16777216; omega, fun p hp => kk p _ (Same.trans (Same.trans (Same.trans (Same.trans (Same.refl H) (sameU hp0)) (sameU hp1)) (sameU hp2)) (sameU hp)) upd_same⟩⟩⟩⟩⟩⟩⟩
    · have T := Z.T "BadName" (by decide)
      obtain ⟨d, _, h1, h2⟩ := er_ev er (by simp [fldsOf])
      exact ⟨_, rfl, by show 5 ≤ 16777216; omega, fun p0 hp0 => ⟨p0, _, rfl, .inr (SqT.of upd_same), rfl, rfl, _, rfl, iteF ⟨_, rfl, by show 3 ≤ 16777216; omega, fun p1 hp1 => ⟨p1, _, rfl, .inr (SqT.of upd_same), rfl, rfl, _, rfl, iteF ⟨_, rfl, by show 5 ≤ 16777216; omega, fun p2 hp2 => ⟨p2, _, rfl, .inr (SqT.of upd_same), rfl, rfl, _, rfl, iteF ⟨_, rfl, by show 2 ≤ 16777216; omega, fun p3 hp3 => ⟨p3, _, rfl, .inr (SqT.of upd_same), rfl, rfl, _, rfl, iteT ⟨_, rfl, e, _, d, _, it, rfl, T, (upS (upS (upS (upS h1 hp0) hp1) hp2) hp3), (upS (upS (upS (upS h2 hp0) hp1) hp2) hp3), by decide, rfl, by show 1 ≤ 16777216; omega, fun p hp => kk p _ (Same.trans (Same.trans (Same.trans (Same.trans (Same.trans (Same.refl H) (sameU hp0)) (sameU hp1)) (sameU hp2)) (sameU hp3)) (sameU hp)) upd_same⟩⟩⟩⟩⟩⟩⟩⟩⟩
    · have T := Z.T "NoName" (by decide)
      obtain ⟨d, _, h1, h2⟩ := er_ev er (by simp [fldsOf])
      exact ⟨_, rfl, by show 5 ≤ 16777216; omega, fun p0 hp0 => ⟨p0, _, rfl, .inr (SqT.of upd_same), rfl, rfl, _, rfl, iteF ⟨_, rfl, by show 3 ≤ 16777216; omega, fun p1 hp1 => ⟨p1, _, rfl, .inr (SqT.of upd_same), rfl, rfl, _, rfl, iteF ⟨_, rfl, by show 5 ≤ 16777216; omega, fun p2 hp2 => ⟨p2, _, rfl, .inr (SqT.of upd_same), rfl, rfl, _, rfl, iteF ⟨_, rfl, by show 2 ≤ 16777216; omega, fun p3 hp3 => ⟨p3, _, rfl, .inr (SqT.of upd_same), rfl, rfl, _, rfl, iteT ⟨_, rfl, e, _, d, _, it, rfl, T, (upS (upS (upS (upS h1 hp0) hp1) hp2) hp3), (upS (upS (upS (upS h2 hp0) hp1) hp2) hp3), by decide, rfl, by show 1 ≤ 16777216; omega, fun p hp => kk p _ (Same.trans (Same.trans (Same.trans (Same.trans (Same.trans (Same.refl H) (sameU hp0)) (sameU hp1)) (sameU hp2)) (sameU hp3)) (sameU hp)) upd_same⟩⟩⟩⟩⟩⟩⟩⟩⟩
    · have T := Z.T "NotAlike" (by decide)
      obtain ⟨d, _, h1, h2⟩ := er_ev er (by simp [fldsOf])
      exact ⟨_, rfl, by show 5 ≤ 16777216; omega, fun p0 hp0 => ⟨p0, _, rfl, .inr (SqT.of upd_same), rfl, rfl, _, rfl, iteF ⟨_, rfl, by show 3 ≤ 16777216; omega, fun p1 hp1 => ⟨p1, _, rfl, .inr (SqT.of upd_same), rfl, rfl, _, rfl, iteF ⟨_, rfl, by show 5 ≤ 16777216; omega, fun p2 hp2 => ⟨p2, _, rfl, .inr (SqT.of upd_same), rfl, rfl, _, rfl, iteT ⟨_, rfl, e, _, d, _, it, rfl, T, (upS (upS (upS h1 hp0) hp1) hp2), (upS (upS (upS h2 hp0) hp1) hp2), by decide, rfl, by show 1 ≤ 16777216; omega, fun p hp => kk p _ (Same.trans (Same.trans (Same.trans (Same.trans (Same.refl H) (sameU hp0)) (sameU hp1)) (sameU hp2)) (sameU hp)) upd_same⟩⟩⟩⟩⟩⟩⟩
    · have T := Z.T "OtherTable" (by decide)
      exact ⟨_, rfl, by show 5 ≤ 16777216; omega, fun p0 hp0 => ⟨p0, _, rfl, .inr (SqT.of upd_same), rfl, rfl, _, rfl, iteF ⟨_, rfl, by show 3 ≤ 16777216; omega, fun p1 hp1 => ⟨p1, _, rfl, .inr (SqT.of upd_same), rfl, rfl, _, rfl, iteF ⟨_, rfl, by show 5 ≤ 16777216; omega, fun p2 hp2 => ⟨p2, _, rfl, .inr (SqT.of upd_same), rfl, rfl, _, rfl, iteF ⟨_, rfl, by show 2 ≤ 16777216; omega, fun p3 hp3 => ⟨p3, _, rfl, .inr (SqT.of upd_same), rfl, rfl, _, rfl, iteF ⟨_, rfl, _, _, rfl, rfl, _, rfl, iteF ⟨_, rfl, _, _, rfl, rfl, _, rfl, iteT ⟨by show 0 ≤ 16777216; omega, fun p hp => kk p _ (Same.trans (Same.trans (Same.trans (Same.trans (Same.trans (Same.refl H) (sameU hp0)) (sameU hp1)) (sameU hp2)) (sameU hp3)) (sameU hp)) upd_same⟩⟩⟩⟩⟩⟩⟩⟩⟩⟩⟩
    · have T := Z.T "OtherNumber" (by decide)
      exact ⟨_, rfl, by show 5 ≤ 16777216; omega, fun p0 hp0 => ⟨p0, _, rfl, .inr (SqT.of upd_same), rfl, rfl, _, rfl, iteF ⟨_, rfl, by show 3 ≤ 16777216; omega, fun p1 hp1 => ⟨p1, _, rfl, .inr (SqT.of upd_same), rfl, rfl, _, rfl, iteF ⟨_, rfl, by show 5 ≤ 16777216; omega, fun p2 hp2 => ⟨p2, _, rfl, .inr (SqT.of upd_same), rfl, rfl, _, rfl, iteF ⟨_, rfl, by show 2 ≤ 16777216; omega, fun p3 hp3 => ⟨p3, _, rfl, .inr (SqT.of upd_same), rfl, rfl, _, rfl, iteF ⟨_, rfl, _, _, rfl, rfl, _, rfl, iteF ⟨_, rfl, _, _, rfl, rfl, _, rfl, iteT ⟨by show 0 ≤ 16777216; omega, fun p hp => kk p _ (Same.trans (Same.trans (Same.trans (Same.trans (Same.trans (Same.refl H) (sameU hp0)) (sameU hp1)) (sameU hp2)) (sameU hp3)) (sameU hp)) upd_same⟩⟩⟩⟩⟩⟩⟩⟩⟩⟩⟩
    · have T := Z.T "NothingToUndo" (by decide)
      exact ⟨_, rfl, by show 5 ≤ 16777216; omega, fun p0 hp0 => ⟨p0, _, rfl, .inr (SqT.of upd_same), rfl, rfl, _, rfl, iteF ⟨_, rfl, by show 3 ≤ 16777216; omega, fun p1 hp1 => ⟨p1, _, rfl, .inr (SqT.of upd_same), rfl, rfl, _, rfl, iteF ⟨_, rfl, by show 5 ≤ 16777216; omega, fun p2 hp2 => ⟨p2, _, rfl, .inr (SqT.of upd_same), rfl, rfl, _, rfl, iteF ⟨_, rfl, by show 2 ≤ 16777216; omega, fun p3 hp3 => ⟨p3, _, rfl, .inr (SqT.of upd_same), rfl, rfl, _, rfl, iteF ⟨_, rfl, _, _, rfl, rfl, _, rfl, iteF ⟨_, rfl, _, _, rfl, rfl, _, rfl, iteT ⟨by show 0 ≤ 16777216; omega, fun p hp => kk p _ (Same.trans (Same.trans (Same.trans (Same.trans (Same.trans (Same.refl H) (sameU hp0)) (sameU hp1)) (sameU hp2)) (sameU hp3)) (sameU hp)) upd_same⟩⟩⟩⟩⟩⟩⟩⟩⟩⟩⟩
    · have T := Z.T "NothingToRedo" (by decide)
      exact ⟨_, rfl, by show 5 ≤ 16777216; omega, fun p0 hp0 => ⟨p0, _, rfl, .inr (SqT.of upd_same), rfl, rfl, _, rfl, iteF ⟨_, rfl, by show 3 ≤ 16777216; omega, fun p1 hp1 => ⟨p1, _, rfl, .inr (SqT.of upd_same), rfl, rfl, _, rfl, iteF ⟨_, rfl, by show 5 ≤ 16777216; omega, fun p2 hp2 => ⟨p2, _, rfl, .inr (SqT.of upd_same), rfl, rfl, _, rfl, iteF ⟨_, rfl, by show 2 ≤ 16777216; omega, fun p3 hp3 => ⟨p3, _, rfl, .inr (SqT.of upd_same), rfl, rfl, _, rfl, iteF ⟨_, rfl, _, _, rfl, rfl, _, rfl, iteF ⟨_, rfl, _, _, rfl, rfl, _, rfl, iteT ⟨by show 0 ≤ 16777216; omega, fun p hp => kk p _ (Same.trans (Same.trans (Same.trans (Same.trans (Same.trans (Same.refl H) (sameU hp0)) (sameU hp1)) (sameU hp2)) (sameU hp3)) (sameU hp)) upd_same⟩⟩⟩⟩⟩⟩⟩⟩⟩⟩⟩
    · have T := Z.T "InvalidCommand" (by decide)
      exact ⟨_, rfl, by show 5 ≤ 16777216; omega, fun p0 hp0 => ⟨p0, _, rfl, .inr (SqT.of upd_same), rfl, rfl, _, rfl, iteF ⟨_, rfl, by show 3 ≤ 16777216; omega, fun p1 hp1 => ⟨p1, _, rfl, .inr (SqT.of upd_same), rfl, rfl, _, rfl, iteF ⟨_, rfl, by show 5 ≤ 16777216; omega, fun p2 hp2 => ⟨p2, _, rfl, .inr (SqT.of upd_same), rfl, rfl, _, rfl, iteF ⟨_, rfl, by show 2 ≤ 16777216; omega, fun p3 hp3 => ⟨p3, _, rfl, .inr (SqT.of upd_same), rfl, rfl, _, rfl, iteF ⟨_, rfl, _, _, rfl, rfl, _, rfl, iteF ⟨_, rfl, _, _, rfl, rfl, _, rfl, iteT ⟨by show 0 ≤ 16777216; omega, fun p hp => kk p _ (Same.trans (Same.trans (Same.trans (Same.trans (Same.trans (Same.refl H) (sameU hp0)) (sameU hp1)) (sameU hp2)) (sameU hp3)) (sameU hp)) upd_same⟩⟩⟩⟩⟩⟩⟩⟩⟩⟩⟩
    · have T := Z.T "Silent" (by decide)
      obtain ⟨d, _, h1, h2⟩ := er_ev er (by simp [fldsOf])
      exact ⟨_, rfl, by show 5 ≤ 16777216; omega, fun p0 hp0 => ⟨p0, _, rfl, .inr (SqT.of upd_same), rfl, rfl, _, rfl, iteF ⟨_, rfl, by show 3 ≤ 16777216; omega, fun p1 hp1 => ⟨p1, _, rfl, .inr (SqT.of upd_same), rfl, rfl, _, rfl, iteF ⟨_, rfl, by show 5 ≤ 16777216; omega, fun p2 hp2 => ⟨p2, _, rfl, .inr (SqT.of upd_same), rfl, rfl, _, rfl, iteF ⟨_, rfl, by show 2 ≤ 16777216; omega, fun p3 hp3 => ⟨p3, _, rfl, .inr (SqT.of upd_same), rfl, rfl, _, rfl, iteF ⟨_, rfl, _, _, rfl, rfl, _, rfl, iteF ⟨_, rfl, _, _, rfl, rfl, _, rfl, iteF ⟨_, rfl, rfl, _, rfl, iteT ⟨_, rfl, e, _, d, _, it, rfl, T, (upS (upS (upS (upS h1 hp0) hp1) hp2) hp3), (upS (upS (upS (upS h2 hp0) hp1) hp2) hp3), by decide, rfl, _, rfl, e, _, d, _, mate, rfl, T, (upS (upS (upS (upS h1 hp0) hp1) hp2) hp3), (upS (upS (upS (upS h2 hp0) hp1) hp2) hp3), by decide, rfl, _, rfl, e, _, d, _, far, rfl, T, (upS (upS (upS (upS h1 hp0) hp1) hp2) hp3), (upS (upS (upS (upS h2 hp0) hp1) hp2) hp3), by decide, rfl, by show 3 ≤ 16777216; omega, fun p hp => kk p _ (Same.trans (Same.trans (Same.trans (Same.trans (Same.trans (Same.refl H) (sameU hp0)) (sameU hp1)) (sameU hp2)) (sameU hp3)) (sameU hp)) upd_same⟩⟩⟩⟩⟩⟩⟩⟩⟩⟩⟩⟩
    · have T := Z.T "Twins" (by decide)
      obtain ⟨d, _, h1, h2⟩ := er_ev er (by simp [fldsOf])
      exact ⟨_, rfl, by show 5 ≤ 16777216; omega, fun p0 hp0 => ⟨p0, _, rfl, .inr (SqT.of upd_same), rfl, rfl, _, rfl, iteF ⟨_, rfl, by show 3 ≤ 16777216; omega, fun p1 hp1 => ⟨p1, _, rfl, .inr (SqT.of upd_same), rfl, rfl, _, rfl, iteF ⟨_, rfl, by show 5 ≤ 16777216; omega, fun p2 hp2 => ⟨p2, _, rfl, .inr (SqT.of upd_same), rfl, rfl, _, rfl, iteF ⟨_, rfl, by show 2 ≤ 16777216; omega, fun p3 hp3 => ⟨p3, _, rfl, .inr (SqT.of upd_same), rfl, rfl, _, rfl, iteF ⟨_, rfl, _, _, rfl, rfl, _, rfl, iteF ⟨_, rfl, _, _, rfl, rfl, _, rfl, iteF ⟨_, rfl, rfl, _, rfl, iteF ⟨_, rfl, rfl, _, rfl, iteT ⟨_, rfl, e, _, d, _, it, rfl, T, (upS (upS (upS (upS h1 hp0) hp1) hp2) hp3), (upS (upS (upS (upS h2 hp0) hp1) hp2) hp3), by decide, rfl, _, rfl, e, _, d, _, mate, rfl, T, (upS (upS (upS (upS h1 hp0) hp1) hp2) hp3), (upS (upS (upS (upS h2 hp0) hp1) hp2) hp3), by decide, rfl, _, rfl, e, _, d, _, far, rfl, T, (upS (upS (upS (upS h1 hp0) hp1) hp2) hp3), (upS (upS (upS (upS h2 hp0) hp1) hp2) hp3), by decide, rfl, by show 3 ≤ 16777216; omega, fun p hp => kk p _ (Same.trans (Same.trans (Same.trans (Same.trans (Same.trans (Same.refl H) (sameU hp0)) (sameU hp1)) (sameU hp2)) (sameU hp3)) (sameU hp)) upd_same⟩⟩⟩⟩⟩⟩⟩⟩⟩⟩⟩⟩⟩
    · have T := Z.T "Stops" (by decide)
      obtain ⟨d, _, h1, h2⟩ := er_ev er (by simp [fldsOf])
      exact ⟨_, rfl, by show 5 ≤ 16777216; omega, fun p0 hp0 => ⟨p0, _, rfl, .inr (SqT.of upd_same), rfl, rfl, _, rfl, iteF ⟨_, rfl, by show 3 ≤ 16777216; omega, fun p1 hp1 => ⟨p1, _, rfl, .inr (SqT.of upd_same), rfl, rfl, _, rfl, iteF ⟨_, rfl, by show 5 ≤ 16777216; omega, fun p2 hp2 => ⟨p2, _, rfl, .inr (SqT.of upd_same), rfl, rfl, _, rfl, iteF ⟨_, rfl, by show 2 ≤ 16777216; omega, fun p3 hp3 => ⟨p3, _, rfl, .inr (SqT.of upd_same), rfl, rfl, _, rfl, iteF ⟨_, rfl, _, _, rfl, rfl, _, rfl, iteF ⟨_, rfl, _, _, rfl, rfl, _, rfl, iteF ⟨_, rfl, rfl, _, rfl, iteF ⟨_, rfl, rfl, _, rfl, iteF ⟨_, rfl, e, _, d, _, it, rfl, T, (upS (upS (upS (upS h1 hp0) hp1) hp2) hp3), (upS (upS (upS (upS h2 hp0) hp1) hp2) hp3), by decide, rfl, _, rfl, e, _, d, _, mate, rfl, T, (upS (upS (upS (upS h1 hp0) hp1) hp2) hp3), (upS (upS (upS (upS h2 hp0) hp1) hp2) hp3), by decide, rfl, by show 2 ≤ 16777216; omega, fun p hp => kk p _ (Same.trans (Same.trans (Same.trans (Same.trans (Same.trans (Same.refl H) (sameU hp0)) (sameU hp1)) (sameU hp2)) (sameU hp3)) (sameU hp)) upd_same⟩⟩⟩⟩⟩⟩⟩⟩⟩⟩⟩⟩⟩
end
end K00
namespace K00
open PySem PySem.Spec PyProof.Rows L2 Sw
section
variable {P : Program} {w : World} {K : PySem.W.Frag} {mg : Str → Option Value} {base : Heap}
def spKinds (K : PySem.W.Frag) : Sp := fun vs H Q _ => ∃ (e C : Addr) (b : Nat → Bool), vs = [.ref e] ∧ Xo H e C ∧ XcC K C ∧ (∀ k, k < 25 → PySem.W.kitOne K (.ref C) (.ref (He.ga K (nmAt k))) = some (b k)) ∧ ∀ p H', Same H H' → H' p = some (.lst (((List.range 25).filter b).map fun k : Nat => V.int k)) → Q (.ref p) H'
theorem sc_kinds : FnScope ["_law_e", "_law_lot", "_law_k"] ["_law_e"] (defScope (top 38)) := ⟨rfl, rfl, rfl, by decide +kernel, rfl, by decide +kernel, by decide +kernel⟩
theorem ok_kinds {f : Addr} {fd : FuncData} (F : FnP K "_law_kinds" 38 f fd) (Z : Facts K mg) (gI : mg "isinstance" = none) (gRa : mg "range" = none) : FnOk P w K mg base CX0 1 f fd ["_law_e"] (spKinds K) := by
  refine F.ok sc_kinds (fun vs H Q E h => ?_) (fun cdv A outer s H vs Q E hr h => ?_)
  · obtain ⟨e, C, b, rfl, _⟩ := h; rfl
  · obtain ⟨e, C, b, rfl, xo, T, hk, kk⟩ := h
    have lz := line_big
    refine ⟨_, PSs.nox (pss_cons (ps_set (i := 1) sc_kinds.nd rfl (Or.inr rfl) (pe_lst (pa_cons (pe_callB (call_xis Z.G) (by rfl) gI boot_isinstance (pa_cons (pv 0) (pa_cons (pe_glob (v := .ref (He.ga K "BadFormat")) (by rfl) (Z.mgC "BadFormat" (by decide)) rfl) pa_nil))) (pa_cons (pe_callB (call_xis Z.G) (by rfl) gI boot_isinstance (pa_cons (pv 0) (pa_cons (pe_glob (v := .ref (He.ga K "BadText")) (by rfl) (Z.mgC "BadText" (by decide)) rfl) pa_nil))) (pa_cons (pe_callB (call_xis Z.G) (by rfl) gI boot_isinstance (pa_cons (pv 0) (pa_cons (pe_glob (v := .ref (He.ga K "BadTranslator")) (by rfl) (Z.mgC "BadTranslator" (by decide)) rfl) pa_nil))) pa_nil)))))
      (pss_cons (ps_set (i := 1) sc_kinds.nd rfl (Or.inr rfl) (pe_op op_cat (pv 1) (pe_lst (pa_cons (pe_callB (call_xis Z.G) (by rfl) gI boot_isinstance (pa_cons (pv 0) (pa_cons (pe_glob (v := .ref (He.ga K "NotSure")) (by rfl) (Z.mgC "NotSure" (by decide)) rfl) pa_nil))) (pa_cons (pe_callB (call_xis Z.G) (by rfl) gI boot_isinstance (pa_cons (pv 0) (pa_cons (pe_glob (v := .ref (He.ga K "BadReader")) (by rfl) (Z.mgC "BadReader" (by decide)) rfl) pa_nil))) (pa_cons (pe_callB (call_xis Z.G) (by rfl) gI boot_isinstance (pa_cons (pv 0) (pa_cons (pe_glob (v := .ref (He.ga K "Drifts")) (by rfl) (Z.mgC "Drifts" (by decide)) rfl) pa_nil))) pa_nil))))))
      (pss_cons (ps_set (i := 1) sc_kinds.nd rfl (Or.inr rfl) (pe_op op_cat (pv 1) (pe_lst (pa_cons (pe_callB (call_xis Z.G) (by rfl) gI boot_isinstance (pa_cons (pv 0) (pa_cons (pe_glob (v := .ref (He.ga K "BadPiece")) (by rfl) (Z.mgC "BadPiece" (by decide)) rfl) pa_nil))) (pa_cons (pe_callB (call_xis Z.G) (by rfl) gI boot_isinstance (pa_cons (pv 0) (pa_cons (pe_glob (v := .ref (He.ga K "NoAnswer")) (by rfl) (Z.mgC "NoAnswer" (by decide)) rfl) pa_nil))) (pa_cons (pe_callB (call_xis Z.G) (by rfl) gI boot_isinstance (pa_cons (pv 0) (pa_cons (pe_glob (v := .ref (He.ga K "NoRest")) (by rfl) (Z.mgC "NoRest" (by decide)) rfl) pa_nil))) pa_nil))))))
      (pss_cons (ps_set (i := 1) sc_kinds.nd rfl (Or.inr rfl) (pe_op op_cat (pv 1) (pe_lst (pa_cons (pe_callB (call_xis Z.G) (by rfl) gI boot_isinstance (pa_cons (pv 0) (pa_cons (pe_glob (v := .ref (He.ga K "BadMarking")) (by rfl) (Z.mgC "BadMarking" (by decide)) rfl) pa_nil))) (pa_cons (pe_callB (call_xis Z.G) (by rfl) gI boot_isinstance (pa_cons (pv 0) (pa_cons (pe_glob (v := .ref (He.ga K "BadPlace")) (by rfl) (Z.mgC "BadPlace" (by decide)) rfl) pa_nil))) (pa_cons (pe_callB (call_xis Z.G) (by rfl) gI boot_isinstance (pa_cons (pv 0) (pa_cons (pe_glob (v := .ref (He.ga K "BadWord")) (by rfl) (Z.mgC "BadWord" (by decide)) rfl) pa_nil))) pa_nil))))))
      (pss_cons (ps_set (i := 1) sc_kinds.nd rfl (Or.inr rfl) (pe_op op_cat (pv 1) (pe_lst (pa_cons (pe_callB (call_xis Z.G) (by rfl) gI boot_isinstance (pa_cons (pv 0) (pa_cons (pe_glob (v := .ref (He.ga K "BadLine")) (by rfl) (Z.mgC "BadLine" (by decide)) rfl) pa_nil))) (pa_cons (pe_callB (call_xis Z.G) (by rfl) gI boot_isinstance (pa_cons (pv 0) (pa_cons (pe_glob (v := .ref (He.ga K "OtherTexts")) (by rfl) (Z.mgC "OtherTexts" (by decide)) rfl) pa_nil))) (pa_cons (pe_callB (call_xis Z.G) (by rfl) gI boot_isinstance (pa_cons (pv 0) (pa_cons (pe_glob (v := .ref (He.ga K "BadName")) (by rfl) (Z.mgC "BadName" (by decide)) rfl) pa_nil))) pa_nil))))))
      (pss_cons (ps_set (i := 1) sc_kinds.nd rfl (Or.inr rfl) (pe_op op_cat (pv 1) (pe_lst (pa_cons (pe_callB (call_xis Z.G) (by rfl) gI boot_isinstance (pa_cons (pv 0) (pa_cons (pe_glob (v := .ref (He.ga K "NoName")) (by rfl) (Z.mgC "NoName" (by decide)) rfl) pa_nil))) (pa_cons (pe_callB (call_xis Z.G) (by rfl) gI boot_isinstance (pa_cons (pv 0) (pa_cons (pe_glob (v := .ref (He.ga K "NotAlike")) (by rfl) (Z.mgC "NotAlike" (by decide)) rfl) pa_nil))) (pa_cons (pe_callB (call_xis Z.G) (by rfl) gI boot_isinstance (pa_cons (pv 0) (pa_cons (pe_glob (v := .ref (He.ga K "OtherTable")) (by rfl) (Z.mgC "OtherTable" (by decide)) rfl) pa_nil))) pa_nil))))))
      (pss_cons (ps_set (i := 1) sc_kinds.nd rfl (Or.inr rfl) (pe_op op_cat (pv 1) (pe_lst (pa_cons (pe_callB (call_xis Z.G) (by rfl) gI boot_isinstance (pa_cons (pv 0) (pa_cons (pe_glob (v := .ref (He.ga K "OtherNumber")) (by rfl) (Z.mgC "OtherNumber" (by decide)) rfl) pa_nil))) (pa_cons (pe_callB (call_xis Z.G) (by rfl) gI boot_isinstance (pa_cons (pv 0) (pa_cons (pe_glob (v := .ref (He.ga K "NothingToUndo")) (by rfl) (Z.mgC "NothingToUndo" (by decide)) rfl) pa_nil))) (pa_cons (pe_callB (call_xis Z.G) (by rfl) gI boot_isinstance (pa_cons (pv 0) (pa_cons (pe_glob (v := .ref (He.ga K "NothingToRedo")) (by rfl) (Z.mgC "NothingToRedo" (by decide)) rfl) pa_nil))) pa_nil))))))
      (pss_cons (ps_set (i := 1) sc_kinds.nd rfl (Or.inr rfl) (pe_op op_cat (pv 1) (pe_lst (pa_cons (pe_callB (call_xis Z.G) (by rfl) gI boot_isinstance (pa_cons (pv 0) (pa_cons (pe_glob (v := .ref (He.ga K "InvalidCommand")) (by rfl) (Z.mgC "InvalidCommand" (by decide)) rfl) pa_nil))) (pa_cons (pe_callB (call_xis Z.G) (by rfl) gI boot_isinstance (pa_cons (pv 0) (pa_cons (pe_glob (v := .ref (He.ga K "Silent")) (by rfl) (Z.mgC "Silent" (by decide)) rfl) pa_nil))) (pa_cons (pe_callB (call_xis Z.G) (by rfl) gI boot_isinstance (pa_cons (pv 0) (pa_cons (pe_glob (v := .ref (He.ga K "Twins")) (by rfl) (Z.mgC "Twins" (by decide)) rfl) pa_nil))) pa_nil))))))
      (pss_cons (ps_set (i := 1) sc_kinds.nd rfl (Or.inr rfl) (pe_op op_cat (pv 1) (pe_lst (pa_cons (pe_callB (call_xis Z.G) (by rfl) gI boot_isinstance (pa_cons (pv 0) (pa_cons (pe_glob (v := .ref (He.ga K "Stops")) (by rfl) (Z.mgC "Stops" (by decide)) rfl) pa_nil))) pa_nil))))
      (pss_one (ps_ret (pe_lc (own := [("_law_k", 2)]) (g := gName 2) rfl sc_kinds.nd (pi_range1 rfl gRa (pa_cons pe_int pa_nil)) (blkOk_by (N := ["_law_e", "_law_lot", "_law_k"]) (sc := defScope (top 38)) (by decide +kernel)) (fun _ _ _ _ _ => pg_name (i := 2) sc_kinds.nd rfl (Or.inl rfl))
        (fun _ _ _ _ _ => pts_one (pt_val (pe_ix (show IxR _ (rIxL K) from ix_list) (pv 1) (pv 2) (fun _ _ => rfl)))) (fun _ _ _ _ _ => pv 2))))))))))))), ?_⟩
    refine ⟨_, rfl, e, C, .ref (He.ga K "BadFormat"), .ref (He.ga K "BadFormat"), b 0, rfl, xo, T, .own _, hk 0 (by decide), _, rfl, e, C, .ref (He.ga K "BadText"), .ref (He.ga K "BadText"), b 1, rfl, xo, T, .own _, hk 1 (by decide), _, rfl, e, C, .ref (He.ga K "BadTranslator"), .ref (He.ga K "BadTranslator"), b 2, rfl, xo, T, .own _, hk 2 (by decide), by show 3 ≤ sizeLine; omega, fun p0 hp0 => ?_⟩
    have s0 : Same H (upd H p0 (.lst [V.bl (b 0), V.bl (b 1), V.bl (b 2)])) := sameU hp0
    have l0 : upd H p0 (.lst [V.bl (b 0), V.bl (b 1), V.bl (b 2)]) p0 = some (.lst [V.bl (b 0), V.bl (b 1), V.bl (b 2)]) := upd_same
    generalize upd H p0 (.lst [V.bl (b 0), V.bl (b 1), V.bl (b 2)]) = G0 at s0 l0 ⊢
    refine ⟨_, rfl, _, rfl, e, C, .ref (He.ga K "NotSure"), .ref (He.ga K "NotSure"), b 3, rfl, (xo.same s0), T, .own _, hk 3 (by decide), _, rfl, e, C, .ref (He.ga K "BadReader"), .ref (He.ga K "BadReader"), b 4, rfl, (xo.same s0), T, .own _, hk 4 (by decide), _, rfl, e, C, .ref (He.ga K "Drifts"), .ref (He.ga K "Drifts"), b 5, rfl, (xo.same s0), T, .own _, hk 5 (by decide), by show 3 ≤ sizeLine; omega, fun q1 hq1 => ⟨p0, q1, _, _, rfl, rfl, upS l0 hq1, upd_same, by show 6 ≤ sizeLine; omega, fun p1 hp1 => ?_⟩⟩
    have s1 : Same H (upd (upd G0 q1 (.lst [V.bl (b 3), V.bl (b 4), V.bl (b 5)])) p1 (.lst ([V.bl (b 0), V.bl (b 1), V.bl (b 2)] ++ [V.bl (b 3), V.bl (b 4), V.bl (b 5)]))) := (s0.trans (sameU hq1)).trans (sameU hp1)
    have l1 : upd (upd G0 q1 (.lst [V.bl (b 3), V.bl (b 4), V.bl (b 5)])) p1 (.lst ([V.bl (b 0), V.bl (b 1), V.bl (b 2)] ++ [V.bl (b 3), V.bl (b 4), V.bl (b 5)])) p1 = some (.lst ([V.bl (b 0), V.bl (b 1), V.bl (b 2)] ++ [V.bl (b 3), V.bl (b 4), V.bl (b 5)])) := upd_same
    generalize upd (upd G0 q1 (.lst [V.bl (b 3), V.bl (b 4), V.bl (b 5)])) p1 (.lst ([V.bl (b 0), V.bl (b 1), V.bl (b 2)] ++ [V.bl (b 3), V.bl (b 4), V.bl (b 5)])) = G1 at s1 l1 ⊢
    refine ⟨_, rfl, _, rfl, e, C, .ref (He.ga K "BadPiece"), .ref (He.ga K "BadPiece"), b 6, rfl, (xo.same s1), T, .own _, hk 6 (by decide), _, rfl, e, C, .ref (He.ga K "NoAnswer"), .ref (He.ga K "NoAnswer"), b 7, rfl, (xo.same s1), T, .own _, hk 7 (by decide), _, rfl, e, C, .ref (He.ga K "NoRest"), .ref (He.ga K "NoRest"), b 8, rfl, (xo.same s1), T, .own _, hk 8 (by decide), by show 3 ≤ sizeLine; omega, fun q2 hq2 => ⟨p1, q2, _, _, rfl, rfl, upS l1 hq2, upd_same, by show 9 ≤ sizeLine; omega, fun p2 hp2 => ?_⟩⟩
    have s2 : Same H (upd (upd G1 q2 (.lst [V.bl (b 6), V.bl (b 7), V.bl (b 8)])) p2 (.lst (([V.bl (b 0), V.bl (b 1), V.bl (b 2)] ++ [V.bl (b 3), V.bl (b 4), V.bl (b 5)]) ++ [V.bl (b 6), V.bl (b 7), V.bl (b 8)]))) := (s1.trans (sameU hq2)).trans (sameU hp2)
    have l2 : upd (upd G1 q2 (.lst [V.bl (b 6), V.bl (b 7), V.bl (b 8)])) p2 (.lst (([V.bl (b 0), V.bl (b 1), V.bl (b 2)] ++ [V.bl (b 3), V.bl (b 4), V.bl (b 5)]) ++ [V.bl (b 6), V.bl (b 7), V.bl (b 8)])) p2 = some (.lst (([V.bl (b 0), V.bl (b 1), V.bl (b 2)] ++ [V.bl (b 3), V.bl (b 4), V.bl (b 5)]) ++ [V.bl (b 6), V.bl (b 7), V.bl (b 8)])) := upd_same
    generalize upd (upd G1 q2 (.lst [V.bl (b 6), V.bl (b 7), V.bl (b 8)])) p2 (.lst (([V.bl (b 0), V.bl (b 1), V.bl (b 2)] ++ [V.bl (b 3), V.bl (b 4), V.bl (b 5)]) ++ [V.bl (b 6), V.bl (b 7), V.bl (b 8)])) = G2 at s2 l2 ⊢
    refine ⟨_, rfl, _, rfl, e, C, .ref (He.ga K "BadMarking"), .ref (He.ga K "BadMarking"), b 9, rfl, (xo.same s2), T, .own _, hk 9 (by decide), _, rfl, e, C, .ref (He.ga K "BadPlace"), .ref (He.ga K "BadPlace"), b 10, rfl, (xo.same s2), T, .own _, hk 10 (by decide), _, rfl, e, C, .ref (He.ga K "BadWord"), .ref (He.ga K "BadWord"), b 11, rfl, (xo.same s2), T, .own _, hk 11 (by decide), by show 3 ≤ sizeLine; omega, fun q3 hq3 => ⟨p2, q3, _, _, rfl, rfl, upS l2 hq3, upd_same, by show 12 ≤ sizeLine; omega, fun p3 hp3 => ?_⟩⟩
    have s3 : Same H (upd (upd G2 q3 (.lst [V.bl (b 9), V.bl (b 10), V.bl (b 11)])) p3 (.lst ((([V.bl (b 0), V.bl (b 1), V.bl (b 2)] ++ [V.bl (b 3), V.bl (b 4), V.bl (b 5)]) ++ [V.bl (b 6), V.bl (b 7), V.bl (b 8)]) ++ [V.bl (b 9), V.bl (b 10), V.bl (b 11)]))) := (s2.trans (sameU hq3)).trans (sameU hp3)
    have l3 : upd (upd G2 q3 (.lst [V.bl (b 9), V.bl (b 10), V.bl (b 11)])) p3 (.lst ((([V.bl (b 0), V.bl (b 1), V.bl (b 2)] ++ [V.bl (b 3), V.bl (b 4), V.bl (b 5)]) ++ [V.bl (b 6), V.bl (b 7), V.bl (b 8)]) ++ [V.bl (b 9), V.bl (b 10), V.bl (b 11)])) p3 = some (.lst ((([V.bl (b 0), V.bl (b 1), V.bl (b 2)] ++ [V.bl (b 3), V.bl (b 4), V.bl (b 5)]) ++ [V.bl (b 6), V.bl (b 7), V.bl (b 8)]) ++ [V.bl (b 9), V.bl (b 10), V.bl (b 11)])) := upd_same
    generalize upd (upd G2 q3 (.lst [V.bl (b 9), V.bl (b 10), V.bl (b 11)])) p3 (.lst ((([V.bl (b 0), V.bl (b 1), V.bl (b 2)] ++ [V.bl (b 3), V.bl (b 4), V.bl (b 5)]) ++ [V.bl (b 6), V.bl (b 7), V.bl (b 8)]) ++ [V.bl (b 9), V.bl (b 10), V.bl (b 11)])) = G3 at s3 l3 ⊢
    refine ⟨_, rfl, _, rfl, e, C, .ref (He.ga K "BadLine"), .ref (He.ga K "BadLine"), b 12, rfl, (xo.same s3), T, .own _, hk 12 (by decide), _, rfl, e, C, .ref (He.ga K "OtherTexts"), .ref (He.ga K "OtherTexts"), b 13, rfl, (xo.same s3), T, .own _, hk 13 (by decide), _, rfl, e, C, .ref (He.ga K "BadName"), .ref (He.ga K "BadName"), b 14, rfl, (xo.same s3), T, .own _, hk 14 (by decide), by show 3 ≤ sizeLine; omega, fun q4 hq4 => ⟨p3, q4, _, _, rfl, rfl, upS l3 hq4, upd_same, by show 15 ≤ sizeLine; omega, fun p4 hp4 => ?_⟩⟩
    have s4 : Same H (upd (upd G3 q4 (.lst [V.bl (b 12), V.bl (b 13), V.bl (b 14)])) p4 (.lst (((([V.bl (b 0), V.bl (b 1), V.bl (b 2)] ++ [V.bl (b 3), V.bl (b 4), V.bl (b 5)]) ++ [V.bl (b 6), V.bl (b 7), V.bl (b 8)]) ++ [V.bl (b 9), V.bl (b 10), V.bl (b 11)]) ++ [V.bl (b 12), V.bl (b 13), V.bl (b 14)]))) := (s3.trans (sameU hq4)).trans (sameU hp4)
    have l4 : upd (upd G3 q4 (.lst [V.bl (b 12), V.bl (b 13), V.bl (b 14)])) p4 (.lst (((([V.bl (b 0), V.bl (b 1), V.bl (b 2)] ++ [V.bl (b 3), V.bl (b 4), V.bl (b 5)]) ++ [V.bl (b 6), V.bl (b 7), V.bl (b 8)]) ++ [V.bl (b 9), V.bl (b 10), V.bl (b 11)]) ++ [V.bl (b 12), V.bl (b 13), V.bl (b 14)])) p4 = some (.lst (((([V.bl (b 0), V.bl (b 1), V.bl (b 2)] ++ [V.bl (b 3), V.bl (b 4), V.bl (b 5)]) ++ [V.bl (b 6), V.bl (b 7), V.bl (b 8)]) ++ [V.bl (b 9), V.bl (b 10), V.bl (b 11)]) ++ [V.bl (b 12), V.bl (b 13), V.bl (b 14)])) := upd_same
    generalize upd (upd G3 q4 (.lst [V.bl (b 12), V.bl (b 13), V.bl (b 14)])) p4 (.lst (((([V.bl (b 0), V.bl (b 1), V.bl (b 2)] ++ [V.bl (b 3), V.bl (b 4), V.bl (b 5)]) ++ [V.bl (b 6), V.bl (b 7), V.bl (b 8)]) ++ [V.bl (b 9), V.bl (b 10), V.bl (b 11)]) ++ [V.bl (b 12), V.bl (b 13), V.bl (b 14)])) = G4 at s4 l4 ⊢
    refine ⟨_, rfl, _, rfl, e, C, .ref (He.ga K "NoName"), .ref (He.ga K "NoName"), b 15, rfl, (xo.same s4), T, .own _, hk 15 (by decide), _, rfl, e, C, .ref (He.ga K "NotAlike"), .ref (He.ga K "NotAlike"), b 16, rfl, (xo.same s4), T, .own _, hk 16 (by decide), _, rfl, e, C, .ref (He.ga K "OtherTable"), .ref (He.ga K "OtherTable"), b 17, rfl, (xo.same s4), T, .own _, hk 17 (by decide), by show 3 ≤ sizeLine; omega, fun q5 hq5 => ⟨p4, q5, _, _, rfl, rfl, upS l4 hq5, upd_same, by show 18 ≤ sizeLine; omega, fun p5 hp5 => ?_⟩⟩
    have s5 : Same H (upd (upd G4 q5 (.lst [V.bl (b 15), V.bl (b 16), V.bl (b 17)])) p5 (.lst ((((([V.bl (b 0), V.bl (b 1), V.bl (b 2)] ++ [V.bl (b 3), V.bl (b 4), V.bl (b 5)]) ++ [V.bl (b 6), V.bl (b 7), V.bl (b 8)]) ++ [V.bl (b 9), V.bl (b 10), V.bl (b 11)]) ++ [V.bl (b 12), V.bl (b 13), V.bl (b 14)]) ++ [V.bl (b 15), V.bl (b 16), V.bl (b 17)]))) := (s4.trans (sameU hq5)).trans (sameU hp5)
    have l5 : upd (upd G4 q5 (.lst [V.bl (b 15), V.bl (b 16), V.bl (b 17)])) p5 (.lst ((((([V.bl (b 0), V.bl (b 1), V.bl (b 2)] ++ [V.bl (b 3), V.bl (b 4), V.bl (b 5)]) ++ [V.bl (b 6), V.bl (b 7), V.bl (b 8)]) ++ [V.bl (b 9), V.bl (b 10), V.bl (b 11)]) ++ [V.bl (b 12), V.bl (b 13), V.bl (b 14)]) ++ [V.bl (b 15), V.bl (b 16), V.bl (b 17)])) p5 = some (.lst ((((([V.bl (b 0), V.bl (b 1), V.bl (b 2)] ++ [V.bl (b 3), V.bl (b 4), V.bl (b 5)]) ++ [V.bl (b 6), V.bl (b 7), V.bl (b 8)]) ++ [V.bl (b 9), V.bl (b 10), V.bl (b 11)]) ++ [V.bl (b 12), V.bl (b 13), V.bl (b 14)]) ++ [V.bl (b 15), V.bl (b 16), V.bl (b 17)])) := upd_same
    generalize upd (upd G4 q5 (.lst [V.bl (b 15), V.bl (b 16), V.bl (b 17)])) p5 (.lst ((((([V.bl (b 0), V.bl (b 1), V.bl (b 2)] ++ [V.bl (b 3), V.bl (b 4), V.bl (b 5)]) ++ [V.bl (b 6), V.bl (b 7), V.bl (b 8)]) ++ [V.bl (b 9), V.bl (b 10), V.bl (b 11)]) ++ [V.bl (b 12), V.bl (b 13), V.bl (b 14)]) ++ [V.bl (b 15), V.bl (b 16), V.bl (b 17)])) = G5 at s5 l5 ⊢
    refine ⟨_, rfl, _, rfl, e, C, .ref (He.ga K "OtherNumber"), .ref (He.ga K "OtherNumber"), b 18, rfl, (xo.same s5), T, .own _, hk 18 (by decide), _, rfl, e, C, .ref (He.ga K "NothingToUndo"), .ref (He.ga K "NothingToUndo"), b 19, rfl, (xo.same s5), T, .own _, hk 19 (by decide), _, rfl, e, C, .ref (He.ga K "NothingToRedo"), .ref (He.ga K "NothingToRedo"), b 20, rfl, (xo.same s5), T, .own _, hk 20 (by decide), by show 3 ≤ sizeLine; omega, fun q6 hq6 => ⟨p5, q6, _, _, rfl, rfl, upS l5 hq6, upd_same, by show 21 ≤ sizeLine; omega, fun p6 hp6 => ?_⟩⟩
    have s6 : Same H (upd (upd G5 q6 (.lst [V.bl (b 18), V.bl (b 19), V.bl (b 20)])) p6 (.lst (((((([V.bl (b 0), V.bl (b 1), V.bl (b 2)] ++ [V.bl (b 3), V.bl (b 4), V.bl (b 5)]) ++ [V.bl (b 6), V.bl (b 7), V.bl (b 8)]) ++ [V.bl (b 9), V.bl (b 10), V.bl (b 11)]) ++ [V.bl (b 12), V.bl (b 13), V.bl (b 14)]) ++ [V.bl (b 15), V.bl (b 16), V.bl (b 17)]) ++ [V.bl (b 18), V.bl (b 19), V.bl (b 20)]))) := (s5.trans (sameU hq6)).trans (sameU hp6)
    have l6 : upd (upd G5 q6 (.lst [V.bl (b 18), V.bl (b 19), V.bl (b 20)])) p6 (.lst (((((([V.bl (b 0), V.bl (b 1), V.bl (b 2)] ++ [V.bl (b 3), V.bl (b 4), V.bl (b 5)]) ++ [V.bl (b 6), V.bl (b 7), V.bl (b 8)]) ++ [V.bl (b 9), V.bl (b 10), V.bl (b 11)]) ++ [V.bl (b 12), V.bl (b 13), V.bl (b 14)]) ++ [V.bl (b 15), V.bl (b 16), V.bl (b 17)]) ++ [V.bl (b 18), V.bl (b 19), V.bl (b 20)])) p6 = some (.lst (((((([V.bl (b 0), V.bl (b 1), V.bl (b 2)] ++ [V.bl (b 3), V.bl (b 4), V.bl (b 5)]) ++ [V.bl (b 6), V.bl (b 7), V.bl (b 8)]) ++ [V.bl (b 9), V.bl (b 10), V.bl (b 11)]) ++ [V.bl (b 12), V.bl (b 13), V.bl (b 14)]) ++ [V.bl (b 15), V.bl (b 16), V.bl (b 17)]) ++ [V.bl (b 18), V.bl (b 19), V.bl (b 20)])) := upd_same
    generalize upd (upd G5 q6 (.lst [V.bl (b 18), V.bl (b 19), V.bl (b 20)])) p6 (.lst (((((([V.bl (b 0), V.bl (b 1), V.bl (b 2)] ++ [V.bl (b 3), V.bl (b 4), V.bl (b 5)]) ++ [V.bl (b 6), V.bl (b 7), V.bl (b 8)]) ++ [V.bl (b 9), V.bl (b 10), V.bl (b 11)]) ++ [V.bl (b 12), V.bl (b 13), V.bl (b 14)]) ++ [V.bl (b 15), V.bl (b 16), V.bl (b 17)]) ++ [V.bl (b 18), V.bl (b 19), V.bl (b 20)])) = G6 at s6 l6 ⊢
    refine ⟨_, rfl, _, rfl, e, C, .ref (He.ga K "InvalidCommand"), .ref (He.ga K "InvalidCommand"), b 21, rfl, (xo.same s6), T, .own _, hk 21 (by decide), _, rfl, e, C, .ref (He.ga K "Silent"), .ref (He.ga K "Silent"), b 22, rfl, (xo.same s6), T, .own _, hk 22 (by decide), _, rfl, e, C, .ref (He.ga K "Twins"), .ref (He.ga K "Twins"), b 23, rfl, (xo.same s6), T, .own _, hk 23 (by decide), by show 3 ≤ sizeLine; omega, fun q7 hq7 => ⟨p6, q7, _, _, rfl, rfl, upS l6 hq7, upd_same, by show 24 ≤ sizeLine; omega, fun p7 hp7 => ?_⟩⟩
    have s7 : Same H (upd (upd G6 q7 (.lst [V.bl (b 21), V.bl (b 22), V.bl (b 23)])) p7 (.lst ((((((([V.bl (b 0), V.bl (b 1), V.bl (b 2)] ++ [V.bl (b 3), V.bl (b 4), V.bl (b 5)]) ++ [V.bl (b 6), V.bl (b 7), V.bl (b 8)]) ++ [V.bl (b 9), V.bl (b 10), V.bl (b 11)]) ++ [V.bl (b 12), V.bl (b 13), V.bl (b 14)]) ++ [V.bl (b 15), V.bl (b 16), V.bl (b 17)]) ++ [V.bl (b 18), V.bl (b 19), V.bl (b 20)]) ++ [V.bl (b 21), V.bl (b 22), V.bl (b 23)]))) := (s6.trans (sameU hq7)).trans (sameU hp7)
    have l7 : upd (upd G6 q7 (.lst [V.bl (b 21), V.bl (b 22), V.bl (b 23)])) p7 (.lst ((((((([V.bl (b 0), V.bl (b 1), V.bl (b 2)] ++ [V.bl (b 3), V.bl (b 4), V.bl (b 5)]) ++ [V.bl (b 6), V.bl (b 7), V.bl (b 8)]) ++ [V.bl (b 9), V.bl (b 10), V.bl (b 11)]) ++ [V.bl (b 12), V.bl (b 13), V.bl (b 14)]) ++ [V.bl (b 15), V.bl (b 16), V.bl (b 17)]) ++ [V.bl (b 18), V.bl (b 19), V.bl (b 20)]) ++ [V.bl (b 21), V.bl (b 22), V.bl (b 23)])) p7 = some (.lst ((((((([V.bl (b 0), V.bl (b 1), V.bl (b 2)] ++ [V.bl (b 3), V.bl (b 4), V.bl (b 5)]) ++ [V.bl (b 6), V.bl (b 7), V.bl (b 8)]) ++ [V.bl (b 9), V.bl (b 10), V.bl (b 11)]) ++ [V.bl (b 12), V.bl (b 13), V.bl (b 14)]) ++ [V.bl (b 15), V.bl (b 16), V.bl (b 17)]) ++ [V.bl (b 18), V.bl (b 19), V.bl (b 20)]) ++ [V.bl (b 21), V.bl (b 22), V.bl (b 23)])) := upd_same
    generalize upd (upd G6 q7 (.lst [V.bl (b 21), V.bl (b 22), V.bl (b 23)])) p7 (.lst ((((((([V.bl (b 0), V.bl (b 1), V.bl (b 2)] ++ [V.bl (b 3), V.bl (b 4), V.bl (b 5)]) ++ [V.bl (b 6), V.bl (b 7), V.bl (b 8)]) ++ [V.bl (b 9), V.bl (b 10), V.bl (b 11)]) ++ [V.bl (b 12), V.bl (b 13), V.bl (b 14)]) ++ [V.bl (b 15), V.bl (b 16), V.bl (b 17)]) ++ [V.bl (b 18), V.bl (b 19), V.bl (b 20)]) ++ [V.bl (b 21), V.bl (b 22), V.bl (b 23)])) = G7 at s7 l7 ⊢
    refine ⟨_, rfl, _, rfl, e, C, .ref (He.ga K "Stops"), .ref (He.ga K "Stops"), b 24, rfl, (xo.same s7), T, .own _, hk 24 (by decide), by show 1 ≤ sizeLine; omega, fun q8 hq8 => ⟨p7, q8, _, _, rfl, rfl, upS l7 hq8, upd_same, by show 25 ≤ sizeLine; omega, fun p8 hp8 => ?_⟩⟩
    have s8 : Same H (upd (upd G7 q8 (.lst [V.bl (b 24)])) p8 (.lst (((((((([V.bl (b 0), V.bl (b 1), V.bl (b 2)] ++ [V.bl (b 3), V.bl (b 4), V.bl (b 5)]) ++ [V.bl (b 6), V.bl (b 7), V.bl (b 8)]) ++ [V.bl (b 9), V.bl (b 10), V.bl (b 11)]) ++ [V.bl (b 12), V.bl (b 13), V.bl (b 14)]) ++ [V.bl (b 15), V.bl (b 16), V.bl (b 17)]) ++ [V.bl (b 18), V.bl (b 19), V.bl (b 20)]) ++ [V.bl (b 21), V.bl (b 22), V.bl (b 23)]) ++ [V.bl (b 24)]))) := (s7.trans (sameU hq8)).trans (sameU hp8)
    have l8 : upd (upd G7 q8 (.lst [V.bl (b 24)])) p8 (.lst (((((((([V.bl (b 0), V.bl (b 1), V.bl (b 2)] ++ [V.bl (b 3), V.bl (b 4), V.bl (b 5)]) ++ [V.bl (b 6), V.bl (b 7), V.bl (b 8)]) ++ [V.bl (b 9), V.bl (b 10), V.bl (b 11)]) ++ [V.bl (b 12), V.bl (b 13), V.bl (b 14)]) ++ [V.bl (b 15), V.bl (b 16), V.bl (b 17)]) ++ [V.bl (b 18), V.bl (b 19), V.bl (b 20)]) ++ [V.bl (b 21), V.bl (b 22), V.bl (b 23)]) ++ [V.bl (b 24)])) p8 = some (.lst (((((((([V.bl (b 0), V.bl (b 1), V.bl (b 2)] ++ [V.bl (b 3), V.bl (b 4), V.bl (b 5)]) ++ [V.bl (b 6), V.bl (b 7), V.bl (b 8)]) ++ [V.bl (b 9), V.bl (b 10), V.bl (b 11)]) ++ [V.bl (b 12), V.bl (b 13), V.bl (b 14)]) ++ [V.bl (b 15), V.bl (b 16), V.bl (b 17)]) ++ [V.bl (b 18), V.bl (b 19), V.bl (b 20)]) ++ [V.bl (b 21), V.bl (b 22), V.bl (b 23)]) ++ [V.bl (b 24)])) := upd_same
    generalize upd (upd G7 q8 (.lst [V.bl (b 24)])) p8 (.lst (((((((([V.bl (b 0), V.bl (b 1), V.bl (b 2)] ++ [V.bl (b 3), V.bl (b 4), V.bl (b 5)]) ++ [V.bl (b 6), V.bl (b 7), V.bl (b 8)]) ++ [V.bl (b 9), V.bl (b 10), V.bl (b 11)]) ++ [V.bl (b 12), V.bl (b 13), V.bl (b 14)]) ++ [V.bl (b 15), V.bl (b 16), V.bl (b 17)]) ++ [V.bl (b 18), V.bl (b 19), V.bl (b 20)]) ++ [V.bl (b 21), V.bl (b 22), V.bl (b 23)]) ++ [V.bl (b 24)])) = G8 at s8 l8 ⊢
    have lb : G8 p8 = some (.lst ((List.range 25).map fun k => V.bl (b k))) := l8
    refine ⟨25, rfl, by omega, by omega, fun D hD => lc_range (lo := 0) (n := 25) (fun i G => G = upd G8 D (.lst (((List.range i).filter b).map fun k : Nat => V.int k))) rfl ?_ ?_⟩
    · rintro i G hi rfl
      have ei : (0 : Int) + (i : Int) = ((i : Nat) : Int) := by omega
      have hg : ((List.range 25).map fun k => V.bl (b k))[i]? = some (V.bl (b i)) := by rw [List.getElem?_map, List.getElem?_range hi]; rfl
      refine ⟨rfl, _, rfl, _, rfl, p8, _, _, _, rfl, rfl, SqL.of (upS lb hD), by rw [ei]; exact atI_nat hg, b i, rfl, ite2 (fun h => ?_) (fun h => ?_)⟩
      · refine ⟨_, rfl, _, upd_same, ?_, ?_⟩
        · rw [List.length_map]
          have := List.length_filter_le b (List.range i)
          rw [List.length_range] at this
          omega
        · rw [upd_upd, List.range_succ, List.filter_append, List.map_append, ei]
          simp only [List.filter_cons, h, if_true, List.filter_nil, List.map_cons, List.map_nil]
      · rw [List.range_succ, List.filter_append]
        simp only [List.filter_cons, h, Bool.false_eq_true, if_false, List.filter_nil, List.append_nil]
    · rintro G rfl
      exact kk D _ (s8.trans (sameU hD)) upd_same
def spUsual (K : PySem.W.Frag) : Sp := fun vs H Q _ => ∃ (e C : Addr), vs = [.ref e] ∧ Xo H e C ∧ XcC K C ∧ (∀ t ∈ usual, PySem.W.kitOne K (.ref C) (.type t) = some false) ∧ ∀ H', Same H H' → Q (.bl false) H'
theorem sc_usual : FnScope ["_law_e", "_law_lot"] ["_law_e"] (defScope (top 39)) := ⟨rfl, rfl, rfl, by decide +kernel, rfl, by decide +kernel, by decide +kernel⟩
theorem ok_usual {f : Addr} {fd : FuncData} (F : FnP K "_law_is_usual" 39 f fd) (Z : Facts K mg) (gI : mg "isinstance" = none) (gValueError : mg "ValueError" = none) (gLookupError : mg "LookupError" = none) (gTypeError : mg "TypeError" = none) (gArithmeticError : mg "ArithmeticError" = none) (gRuntimeError : mg "RuntimeError" = none) : FnOk P w K mg base CX0 1 f fd ["_law_e"] (spUsual K) := by
  refine F.ok sc_usual (fun vs H Q E h => ?_) (fun cdv A outer s H vs Q E hr h => ?_)
  · obtain ⟨e, C, rfl, _⟩ := h; rfl
  · obtain ⟨e, C, rfl, xo, T, hu, kk⟩ := h
    have lz := line_big
    refine ⟨_, PSs.nox (pss_cons (ps_set (i := 1) sc_usual.nd rfl (Or.inl rfl) (pe_lst (pa_cons (pe_callB (call_xis Z.G) (by rfl) gI boot_isinstance (pa_cons (pv 0) (pa_cons (pe_bltn (v := .ty "ValueError") (by rfl) gValueError (by decide +kernel) rfl) pa_nil))) (pa_cons (pe_callB (call_xis Z.G) (by rfl) gI boot_isinstance (pa_cons (pv 0) (pa_cons (pe_bltn (v := .ty "LookupError") (by rfl) gLookupError (by decide +kernel) rfl) pa_nil))) (pa_cons (pe_callB (call_xis Z.G) (by rfl) gI boot_isinstance (pa_cons (pv 0) (pa_cons (pe_bltn (v := .ty "TypeError") (by rfl) gTypeError (by decide +kernel) rfl) pa_nil))) pa_nil)))))
      (pss_one (ps_ret (pe_cmpR op_in_seq pe_bl (pe_op op_cat (pv 1) (pe_lst (pa_cons (pe_callB (call_xis Z.G) (by rfl) gI boot_isinstance (pa_cons (pv 0) (pa_cons (pe_bltn (v := .ty "ArithmeticError") (by rfl) gArithmeticError (by decide +kernel) rfl) pa_nil))) (pa_cons (pe_callB (call_xis Z.G) (by rfl) gI boot_isinstance (pa_cons (pv 0) (pa_cons (pe_bltn (v := .ty "RuntimeError") (by rfl) gRuntimeError (by decide +kernel) rfl) pa_nil))) pa_nil)))) rfl)))), ?_⟩
    refine ⟨_, rfl, e, C, .ty "ValueError", .type "ValueError", false, rfl, xo, T, .ty _, hu "ValueError" (by decide), _, rfl, e, C, .ty "LookupError", .type "LookupError", false, rfl, xo, T, .ty _, hu "LookupError" (by decide), _, rfl, e, C, .ty "TypeError", .type "TypeError", false, rfl, xo, T, .ty _, hu "TypeError" (by decide), by show 3 ≤ sizeLine; omega, fun p hp => ⟨_, rfl, _, rfl, e, C, .ty "ArithmeticError", .type "ArithmeticError", false, rfl, (xo.same (sameU hp)), T, .ty _, hu "ArithmeticError" (by decide), _, rfl, e, C, .ty "RuntimeError", .type "RuntimeError", false, rfl, (xo.same (sameU hp)), T, .ty _, hu "RuntimeError" (by decide), by show 2 ≤ sizeLine; omega, fun q hq => ⟨p, q, _, _, rfl, rfl, upS upd_same hq, upd_same, by show 5 ≤ sizeLine; omega, fun r hr2 => ⟨r, _, rfl, .inl (SqL.of upd_same), rfl, rfl, ?_⟩⟩⟩⟩
    exact kk _ (((sameU hp).trans (sameU hq)).trans (sameU hr2))
end
end K00
namespace K00
open PySem PySem.Spec PyProof.Rows L2 Sw
section
variable {P : Program} {w : World} {K : PySem.W.Frag} {mg : Str → Option Value} {base : Heap}
/-! ### the deck -/
def dk (l : Addr) (br dr : Int) : List (Key × V) := [(.inr "left", .ref l), (.inr "mixed", .int br), (.inr "draws", .int dr)]
theorem k12 : ¬ (Sum.inr ("left" : Str) : Key) = Sum.inr ("mixed" : Str) := by decide +kernel
theorem k13 : ¬ (Sum.inr ("left" : Str) : Key) = Sum.inr ("draws" : Str) := by decide +kernel
theorem k23 : ¬ (Sum.inr ("mixed" : Str) : Key) = Sum.inr ("draws" : Str) := by decide +kernel
theorem dk_left (l : Addr) (br dr : Int) : valV (dk l br dr) (.inr "left") = some (.ref l) := valV_pos rfl
theorem dk_mixed (l : Addr) (br dr : Int) : valV (dk l br dr) (.inr "mixed") = some (.int br) := by
  unfold dk; rw [valV_neg k12, valV_pos rfl]
theorem dk_draws (l : Addr) (br dr : Int) : valV (dk l br dr) (.inr "draws") = some (.int dr) := by
  unfold dk; rw [valV_neg k13, valV_neg k23, valV_pos rfl]
theorem dk_put (l : Addr) (br dr e : Int) : putK (dk l br dr) (.inr "draws") (.int e) = dk l br e := by
  have a1 : ¬ ("left" : Str) = "draws" := by decide +kernel
  have a2 : ¬ ("mixed" : Str) = "draws" := by decide +kernel
  unfold dk putK
  simp [a1, a2]
theorem dk_merge (l : Addr) (b e : Int) : mergeK [] (dk l b e) = dk l b e := by
  have a1 : ¬ ("left" : Str) = "draws" := by decide +kernel
  have a2 : ¬ ("mixed" : Str) = "draws" := by decide +kernel
  have a3 : ¬ ("left" : Str) = "mixed" := by decide +kernel
  unfold mergeK dk putK
  simp [a1, a2, a3, putK]
structure DeckAt (H : Hp) (d l : Addr) (ns : List Int) (br dr : Int) : Prop where
  at_ : H d = some (.dK (dk l br dr))
  left : H l = some (.lst (ns.map V.int))
  few : ns.length ≤ 63
  lo : 0 ≤ dr
section
variable {H : Hp} {d l : Addr} {ns : List Int} {br dr : Int}
theorem DeckAt.ne (D : DeckAt H d l ns br dr) : l ≠ d := ne_of D.left D.at_ (by intro z; cases z)
theorem DeckAt.gC (D : DeckAt H d l ns br dr) : DGet H d (.str "left") (some (.ref l)) := by
  have z := DGet.k (k := .inr ("left" : Str)) D.at_
  rw [dk_left] at z
  exact z
theorem DeckAt.gB (D : DeckAt H d l ns br dr) : DGet H d (.str "mixed") (some (.int br)) := by
  have z := DGet.k (k := .inr ("mixed" : Str)) D.at_
  rw [dk_mixed] at z
  exact z
theorem DeckAt.gD (D : DeckAt H d l ns br dr) : DGet H d (.str "draws") (some (.int dr)) := by
  have z := DGet.k (k := .inr ("draws" : Str)) D.at_
  rw [dk_draws] at z
  exact z
theorem DeckAt.put (D : DeckAt H d l ns br dr) (e : Int) : DPut H d (.str "draws") (.int e) (upd H d (.dK (dk l br e))) := by
  have z := DPut.k (k := .inr ("draws" : Str)) (v := .int e) D.at_ (by show 3 < sizeLine; decide)
  rw [dk_put] at z
  exact z
theorem DeckAt.drawn (D : DeckAt H d l ns br dr) {e : Int} (he : 0 ≤ e) : DeckAt (upd H d (.dK (dk l br e))) d l ns br e := ⟨upd_same, by rw [upd_ne D.ne]; exact D.left, D.few, he⟩
theorem DeckAt.beside {p : Addr} {o : HO} (D : DeckAt H d l ns br dr) (hp : H p = none) : DeckAt (upd H p o) d l ns br dr := ⟨upS D.at_ hp, upS D.left hp, D.few, D.lo⟩
theorem DeckAt.leftTo {ms : List Int} (D : DeckAt H d l ns br dr) (h : ms.length ≤ 63) : DeckAt (upd H l (.lst (ms.map V.int))) d l ms br dr := ⟨by rw [upd_ne D.ne.symm]; exact D.at_, upd_same, h, D.lo⟩
theorem DeckAt.same {H' : Hp} (D : DeckAt H d l ns br dr) (s : Same H H') : DeckAt H' d l ns br dr := ⟨s _ _ D.at_, s _ _ D.left, D.few, D.lo⟩
end
def Keep (d l : Addr) (H H' : Hp) : Prop := ∀ b o, b ≠ d → b ≠ l → H b = some o → H' b = some o
def spDraw : Sp := fun vs H Q _ => ∃ (d l : Addr) (ns : List Int) (br dr m : Int), vs = [.ref d, .int m] ∧ DeckAt H d l ns br dr ∧ dr < 1000000 ∧ 1 ≤ m ∧ m ≤ 1000000 ∧
  ∀ (j : Int) (ns' : List Int) (H' : Hp), 0 ≤ j → j < m → DeckAt H' d l ns' br (dr + 1) → Keep d l H H' → Q (.int j) H'
theorem sc_draw : FnScope ["_law_deck_here", "_law_many", "_law_figure", "_law_cell"] ["_law_deck_here", "_law_many"] (defScope (top 29)) := ⟨rfl, rfl, rfl, by decide +kernel, rfl, by decide +kernel, by decide +kernel⟩
theorem ok_ints : ∀ ns : List Int, PyData.canLayAll0 (ns.map PyData.int) = true
  | [] => by simp only [List.map_nil, PyData.canLayAll0]
  | n :: ns => by simp only [List.map_cons, PyData.canLayAll0, PyData.canLay0, ok_ints ns, Bool.and_self]
theorem depth_ints : ∀ xs : List Int, PyData.depthAll (xs.map PyData.int) = 0
  | [] => by simp only [List.map_nil, PyData.depthAll]
  | x :: xs => by simp only [List.map_cons, PyData.depthAll, PyData.depth, depth_ints xs, Nat.max_self]
theorem shaped_ints (ns : List Int) : SeqAt.shaped (.list (ns.map PyData.int)) = true := by
  unfold SeqAt.shaped
  simp only [PyData.canLay0, ok_ints, Bool.true_and, PyData.depth, depth_ints]
  decide
theorem ok_draw {f : Addr} {fd : FuncData} (F : FnP K "_law_draw" 29 f fd) (gI : mg "int" = none) : FnOk P w K mg base CX0 1 f fd ["_law_deck_here", "_law_many"] spDraw := by
  refine F.ok sc_draw (fun vs H Q E h => ?_) (fun cdv A outer s H vs Q E hr h => ?_)
  · obtain ⟨d, l, ns, br, dr, m, rfl, _⟩ := h; rfl
  · obtain ⟨d, l, ns, br, dr, m, rfl, D, hdr, hm1, hm2, k⟩ := h
    have hu := hu_of hr
    refine ⟨_, PSs.nox (pss_cons (ps_dput hu (pv 0) pe_str (pe_op op_add (pe_dget hu (pv 0) pe_str (fun _ _ => rfl)) pe_int) rfl)
      (pss_cons (ps_set (i := 2) sc_draw.nd rfl (Or.inl rfl) (pe_op op_add (pe_dget hu (pv 0) pe_str (fun _ _ => rfl)) (pe_op op_mul pe_int (pe_dget hu (pv 0) pe_str (fun _ _ => rfl)))))
      (pss_cons (ps_if (pt_cmpR (op_neD hr.units) (pe_dget hu (pv 0) pe_str (fun _ _ => rfl)) (pe_lst pa_nil) (nomark _))
        (pss_cons (ps_set (i := 3) sc_draw.nd rfl (Or.inl rfl) (pe_bm0 PySem.F.plainAttrs_list PySem.F.slot_list_pop PySem.F.type_list_pop mt_pop (pe_dget hu (pv 0) pe_str (fun _ _ => rfl))))
        (pss_cons (ps_if (pt_cmpR op_ge (pv 3) (pe_op op_pow pe_int pe_int) (nomark _))
          (pss_cons (ps_expr (pe_bm PySem.F.plainAttrs_list PySem.F.slot_list_append PySem.F.type_list_append mt_append (pe_dget hu (pv 0) pe_str (fun _ _ => rfl)) (pa_cons (pe_op op_fdivW (pv 3) (pv 1)) pa_nil)))
          (pss_one (ps_ret (pe_callTy call_int1 (by rfl) gI boot_int (pa_cons (pe_op op_mod (pv 3) (pv 1)) pa_nil)))))
          pss_nil)
        (pss_one (ps_set (i := 2) sc_draw.nd rfl (Or.inl rfl) (pe_op op_add (pv 2) (pe_op op_mod (pe_callTy call_int1 (by rfl) gI boot_int (pa_cons (pv 3) pa_nil)) pe_int))))))
        pss_nil)
      (pss_cons (ps_set (i := 2) sc_draw.nd rfl (Or.inl rfl) (pe_op op_mod (pe_callTy call_int1 (by rfl) gI boot_int (pa_cons (pe_op op_add (pe_op op_mul (pv 2) pe_int) pe_int) pa_nil)) pe_int))
      (pss_cons (ps_set (i := 2) sc_draw.nd rfl (Or.inl rfl) (pe_op op_mod (pe_callTy call_int1 (by rfl) gI boot_int (pa_cons (pe_op op_add (pe_op op_add (pe_op op_mul (pv 2) (pv 2)) (pe_op op_mul pe_int (pe_dget hu (pv 0) pe_str (fun _ _ => rfl)))) pe_int) pa_nil)) pe_int))
      (pss_one (ps_ret (pe_callTy call_int1 (by rfl) gI boot_int (pa_cons (pe_op op_mod (pe_op op_fdiv (pe_op op_mod (pe_op op_mul (pv 2) pe_int) pe_int) pe_int) (pv 1)) pa_nil))))))))), ?_⟩
    have hd0 := D.lo
    have D1 := D.drawn (e := dr + 1) (by omega)
    refine ⟨_, rfl, d, .int dr, rfl, D.gD, _, _, rfl, rfl, _, rfl, d, _, rfl, D.put (dr + 1), ?_⟩
    refine ⟨_, rfl, d, _, rfl, D1.gB, _, rfl, d, _, rfl, D1.gD, _, _, rfl, rfl, .inl ⟨by decide, by decide⟩, _, _, rfl, rfl, ?_⟩
    refine ⟨_, rfl, d, _, rfl, D1.gC, by show 0 ≤ sizeLine; omega, fun p hp => ?_⟩
    have D2 := D1.beside (o := .lst []) hp
    have keep1 : ∀ b o, b ≠ d → b ≠ l → H b = some o → upd (upd H d (.dK (dk l br (dr + 1)))) p (.lst []) b = some o := fun b o h1 _ h3 => by
      have z : upd H d (.dK (dk l br (dr + 1))) b = some o := by rw [upd_ne h1]; exact h3
      rw [upd_ne (ne_of_none z hp)]; exact z
    have fin : ∀ (G : Hp) (ns' : List Int) (x : Int), DeckAt G d l ns' br (dr + 1) → Keep d l H G → Q (.int (x % m)) G :=
      fun G ns' x DG kp => k _ _ _ (Int.emod_nonneg _ (by omega)) (Int.emod_lt_of_pos _ (by omega)) DG kp
    have b1 : ∀ x : Int, -(2 ^ 64) < x % 2147483647 ∧ x % 2147483647 < 2 ^ 64 := fun x => by omega
    refine ⟨.list (ns.map PyData.int), .list [], .lst (SqL.of D2.left) (dp_ints _), .lst (SqL.of upd_same) .nil, shaped_ints ns, by decide, _, rfl, ?_⟩
    rw [eqv_nil]
    have tail : ∀ (x : Int) (o3 : Option V) (G : Hp) (ns' : List Int), DeckAt G d l ns' br (dr + 1) → Keep d l H G → True := fun _ _ _ _ _ _ => trivial
    cases hns : ns with
    | nil =>
      refine iteF ?_
      refine ⟨_, rfl, _, _, rfl, rfl, .inr ⟨by decide, by decide⟩, _, _, rfl, rfl, .inl ⟨_, rfl, _, _, rfl, rfl, (by show (0 : Int) < 2147483647; decide), ?_⟩⟩
      refine ⟨_, rfl, _, rfl, _, _, rfl, rfl, .inl (b1 _), _, rfl, d, _, rfl, (hns ▸ D2).gD, _, _, rfl, rfl, .inl ⟨by decide, by decide⟩, _, _, rfl, rfl, _, _, rfl, rfl, .inl ⟨_, rfl, _, _, rfl, rfl, (by show (0 : Int) < 2147483587; decide), ?_⟩⟩
      refine ⟨_, rfl, _, _, rfl, rfl, .inr ⟨by decide, by decide⟩, _, _, rfl, rfl, (by show (0 : Int) < 2147483563; decide), _, _, rfl, rfl, ⟨by decide, by decide⟩, _, rfl, _, _, rfl, rfl, (by show 0 < m; omega), .inl ⟨_, rfl, ?_⟩⟩
      exact fin _ _ _ (hns ▸ D2) keep1
    | cons n0 ns0 =>
      refine iteT ?_
      have hne : ns ≠ [] := by rw [hns]; simp
      obtain ⟨cl, hcl⟩ : ∃ cl, ns[ns.length - 1]? = some cl := ⟨ns[ns.length - 1]'(by rw [hns]; simp), List.getElem?_eq_getElem _⟩
      have few := D.few
      have hdl : (ns.map V.int).dropLast = ns.dropLast.map V.int := (List.map_dropLast ..).symm
      have D3 := D2.leftTo (ms := ns.dropLast) (by rw [List.length_dropLast]; omega)
      have keep2 : ∀ (o' : HO), Keep d l H (upd (upd (upd H d (.dK (dk l br (dr + 1)))) p (.lst [])) l o') := fun o' b o h1 h2 h3 => by
        rw [upd_ne h2]; exact keep1 b o h1 h2 h3
      refine ⟨_, rfl, d, _, rfl, D2.gC, .inl ⟨rfl, _, SqL.of D2.left⟩, l, _, .int cl, rfl, rfl, D2.left, by rw [List.length_map, List.getElem?_map, hcl]; rfl, ?_⟩
      rw [hdl]
      refine ⟨_, rfl, _, _, rfl, rfl, ⟨by decide, by decide, by decide⟩, _, _, rfl, rfl, _, rfl, ?_⟩
      refine ite2 (fun hbig => ?_) (fun hbig => ?_)
      · refine ⟨_, rfl, d, _, rfl, D3.gC, .inl ⟨rfl, _, SqL.of D3.left⟩, _, rfl, _, rfl, _, _, rfl, rfl, wide_div (by omega) (b := 20) (by omega) (by decide) (by decide), l, _, _, rfl, rfl, D3.left, ?_, ?_⟩
        · rw [List.length_map, List.length_dropLast]
          have := line_big
          omega
        · have e1 : (ns.dropLast.map V.int) ++ [V.int (cl / m)] = (ns.dropLast ++ [cl / m]).map V.int := by rw [List.map_append]; rfl
          rw [e1, upd_upd]
          have D4 := D2.leftTo (ms := ns.dropLast ++ [cl / m]) (by rw [List.length_append, List.length_dropLast]; simp only [List.length_cons, List.length_nil]; omega)
          refine ⟨_, rfl, _, rfl, _, _, rfl, rfl, (by show 0 < m; omega), .inl ⟨_, rfl, ?_⟩⟩
          exact fin _ _ _ D4 (keep2 _)
      · refine ⟨_, rfl, _, rfl, .inl ⟨_, rfl, _, _, rfl, rfl, (by show (0 : Int) < 2147483629; decide), _, _, rfl, rfl, ?_⟩⟩
        refine ⟨_, rfl, _, _, rfl, rfl, .inr ⟨by decide, by decide⟩, _, _, rfl, rfl, .inl ⟨_, rfl, _, _, rfl, rfl, (by show (0 : Int) < 2147483647; decide), ?_⟩⟩
        refine ⟨_, rfl, _, rfl, _, _, rfl, rfl, .inl (b1 _), _, rfl, d, _, rfl, D3.gD, _, _, rfl, rfl, .inl ⟨by decide, by decide⟩, _, _, rfl, rfl, _, _, rfl, rfl, .inl ⟨_, rfl, _, _, rfl, rfl, (by show (0 : Int) < 2147483587; decide), ?_⟩⟩
        refine ⟨_, rfl, _, _, rfl, rfl, .inr ⟨by decide, by decide⟩, _, _, rfl, rfl, (by show (0 : Int) < 2147483563; decide), _, _, rfl, rfl, ⟨by decide, by decide⟩, _, rfl, _, _, rfl, rfl, (by show 0 < m; omega), .inl ⟨_, rfl, ?_⟩⟩
        exact fin _ _ _ D3 (keep2 _)
end
end K00
namespace K00
open PySem PySem.Spec PyProof.Rows L2 Sw
section
variable {P : Program} {w : World} {K : PySem.W.Frag} {mg : Str → Option Value} {base : Heap}
theorem cut_63 {xs : List V} (h : xs.length ≤ 63) : cutV xs none (some 63) = xs := by
  unfold cutV
  have e : HT.sIx xs.length xs.length (some 63) = xs.length := by
    have := HT.sIx_nat xs.length xs.length 63
    rw [show ((63 : Nat) : Int) = 63 from rfl] at this
    rw [this]; omega
  rw [e, HT.sIx_none, List.drop_zero, Nat.sub_zero, List.take_of_length_le (Nat.le_refl _)]
def spDeck (K : PySem.W.Frag) : Sp := fun vs H Q _ => ∃ (a : Addr) (ns : List Int), vs = [.ref a] ∧ SqL K H a (ns.map V.int) ∧ ns.length ≤ 63 ∧ ∀ (d l : Addr) (ms : List Int) (br : Int) (H' : Hp), DeckAt H' d l ms br 0 → Same H H' → Q (.ref d) H'
theorem sc_deck : FnScope ["_law_script", "_law_mixed", "_law_cell"] ["_law_script"] (defScope (top 28)) := ⟨rfl, rfl, rfl, by decide +kernel, rfl, by decide +kernel, by decide +kernel⟩
theorem ok_deck {f : Addr} {fd : FuncData} (F : FnP K "_law_deck" 28 f fd) (gI : mg "int" = none) (gL : mg "list" = none) : FnOk P w K mg base CX0 1 f fd ["_law_script"] (spDeck K) := by
  refine F.ok sc_deck (fun vs H Q E h => ?_) (fun cdv A outer s H vs Q E hr h => ?_)
  · obtain ⟨a, ns, rfl, _⟩ := h; rfl
  · obtain ⟨a, ns, rfl, hS, hn, k⟩ := h
    have hu := hu_of hr
    refine ⟨_, PSs.nox (pss_cons (ps_set (i := 1) sc_deck.nd rfl (Or.inl rfl) pe_int)
      (pss_cons (ps_for PassesOwn.never rfl (pi_list (pe_slice sl_list (pv 0) po_none (po_some pe_int))) (pg_name (i := 2) sc_deck.nd rfl (Or.inl rfl))
        (pss_one (ps_set (i := 1) sc_deck.nd rfl (Or.inl rfl) (pe_op op_mod (pe_callTy call_int1 (by rfl) gI boot_int (pa_cons (pe_op op_add (pe_op op_add (pe_op op_mul (pv 1) pe_int) (pe_op op_mod (pe_callTy call_int1 (by rfl) gI boot_int (pa_cons (pv 2) pa_nil)) pe_int)) pe_int) pa_nil)) pe_int))))
      (pss_one (ps_ret (pe_disp (pps_cons pe_str (pe_revL (pe_callTy call_list_of (by rfl) gL boot_list (pa_cons (pe_slice sl_list (pv 0) po_none (po_some pe_int)) pa_nil))) (pps_cons pe_str (pv 1) (pps_cons pe_str pe_int pps_nil))) rfl rfl (by simp) (by decide)))))), ?_⟩
    refine ⟨_, rfl, _, rfl, a, _, rfl, hS, fun p hp => ?_⟩
    rw [cut_63 (by rw [List.length_map]; exact hn)]
    refine ⟨p, rfl, ⟨_, SqL.of upd_same⟩, for_list (K := K) (a := p) (xs := ns.map V.int) (fun i σ G => ∃ (v : Option V) (b : Int), σ = [some (.ref a), some (.int b), v] ∧ G = upd H p (.lst (ns.map V.int)))
      ⟨none, 1086200, rfl, rfl⟩ (fun i σ G _ ⟨_, _, _, e⟩ => by rw [e]; exact SqL.of upd_same) ?_ ?_⟩
    · rintro i y σ G hi ⟨v, b, rfl, rfl⟩
      obtain ⟨z, rfl⟩ : ∃ z, y = V.int z := by
        rw [List.getElem?_map] at hi
        cases e : ns[i]? with
        | none => rw [e] at hi; cases hi
        | some z => rw [e] at hi; exact ⟨z, (Option.some.inj hi).symm⟩
      exact ⟨_, rfl, _, _, rfl, rfl, .inr ⟨by decide, by decide⟩, _, rfl, .inl ⟨_, rfl, _, _, rfl, rfl, (by show (0 : Int) < 2147483629; decide), _, _, rfl, rfl, _, _, rfl, rfl, .inl ⟨_, rfl, _, _, rfl, rfl, (by show (0 : Int) < 2147483587; decide), _, _, rfl, rfl⟩⟩⟩
    · rintro σ G ⟨v, b, rfl, rfl⟩
      have s1 : Same H (upd H p (.lst (ns.map V.int))) := sameU hp
      generalize upd H p (.lst (ns.map V.int)) = G1 at s1 ⊢
      refine fun d hd => ⟨_, rfl, _, rfl, a, _, rfl, (s1.trans (sameU hd)).seq hS, fun q hq => ?_⟩
      rw [cut_63 (by rw [List.length_map]; exact hn)]
      refine ⟨q, _, rfl, .inl (SqL.of upd_same), fun r hr => ⟨r, _, rfl, SqL.of upd_same, fun l hl => ⟨_, rfl, ?_⟩⟩⟩
      have hD : ∀ o, upd (upd (upd (upd G1 d (.dK [])) q (.lst (ns.map V.int))) r (.lst (ns.map V.int))) l o d = some (.dK []) := fun o => upS (upS (upS upd_same hq) hr) hl
      have hdl : d ≠ l := ne_of_none (upS (upS upd_same hq) hr) hl
      refine ⟨hD _, dk l b 0, rfl, by show 3 ≤ 15; omega, ?_⟩
      rw [dk_merge]
      refine k d l ns.reverse b _ ⟨upd_same, by rw [upd_ne hdl.symm, upd_same, List.map_reverse], by rw [List.length_reverse]; exact hn, Int.le_refl _⟩ fun c o hc => ?_
      have n1 : c ≠ d := ne_of_none (s1 c o hc) hd
      rw [upd_ne n1]
      exact upS (upS (upS (upS (s1 c o hc) hd) hq) hr) hl
def spPick : Sp := fun vs H Q _ => ∃ (d l : Addr) (ns : List Int) (br dr : Int) (a : Addr) (its : List V), vs = [.ref d, .ref a] ∧ DeckAt H d l ns br dr ∧ dr < 1000000 ∧ H a = some (.lst its) ∧ a ≠ l ∧ 1 ≤ its.length ∧ its.length ≤ 1000 ∧
  ∀ (v : V) (ns' : List Int) (H' : Hp), v ∈ its → DeckAt H' d l ns' br (dr + 1) → Keep d l H H' → Q v H'
theorem sc_pick : FnScope ["_law_deck_here", "_law_some"] ["_law_deck_here", "_law_some"] (defScope (top 30)) := ⟨rfl, rfl, rfl, by decide +kernel, rfl, by decide +kernel, by decide +kernel⟩
theorem ok_pick {f fD : Addr} {fd fdD : FuncData} (F : FnP K "_law_pick" 30 f fd) (FD : FnP K "_law_draw" 29 fD fdD) (gD : mg "_law_draw" = some (.ref fD)) (gI : mg "int" = none) (gL : mg "len" = none) : FnOk P w K mg base CX0 2 f fd ["_law_deck_here", "_law_some"] spPick := by
  have G : FnOk P w K mg base CX0 1 fD fdD ["_law_deck_here", "_law_many"] spDraw := ok_draw FD gI
  have bD : Binds K fdD ["_law_deck_here", "_law_many"] [] := FD.bindsN fun _ _ _ _ _ _ us hl => match us, hl with | [_, _], _ => rfl
  refine F.ok sc_pick (fun vs H Q E h => ?_) (fun cdv A outer s H vs Q E hr h => ?_)
  · obtain ⟨d, l, ns, br, dr, x, its, rfl, _⟩ := h; rfl
  · obtain ⟨d, l, ns, br, dr, a, its, rfl, D, hdr, h, hn, h1, h2, k⟩ := h
    have had : a ≠ d := ne_of h D.at_ (by intro z; cases z)
    refine ⟨_, PSs.nox (pss_one (ps_ret (pe_ix ix_list (pv 1) (pe_call G hr (by rfl) gD FD.kp bD .nil pass0 (pa_cons (pv 0) (pa_cons (pe_callB call_len_seq (by rfl) gL boot_len (pa_cons (pv 1) pa_nil)) pa_nil))) (fun _ _ => rfl)))), ?_⟩
    refine ⟨_, rfl, _, rfl, _, rfl, a, _, rfl, .inl (SqL.of h), ?_⟩
    refine ⟨d, l, ns, br, dr, _, rfl, D, hdr, by omega, by omega, fun j ns' H' hj1 hj2 D' kp => ?_⟩
    obtain ⟨n, rfl⟩ : ∃ n : Nat, j = (n : Int) := ⟨j.toNat, by omega⟩
    have hn2 : n < its.length := by omega
    exact ⟨a, its, _, its[n], rfl, rfl, SqL.of (kp a _ had hn h), atI_nat (List.getElem?_eq_getElem hn2), k _ _ _ (List.getElem_mem _) D' kp⟩
end
end K00
namespace K00
open PySem PySem.Spec PyProof.Rows L2 Sw
def cods : List Nat := [3, 16, 14, 22, 19]
section
variable {P : Program} {w : World} {K : PySem.W.Frag} {mg : Str → Option Value} {base : Heap}
def spCaught (K : PySem.W.Frag) : Sp := fun vs H Q _ => ∃ (n : Nat) (v : V), vs = [.int n, v] ∧ n < 5 ∧ ∀ p H', Same H H' → H' p = some (.lst [V.int ((cods.getD n 0 : Nat) : Int)]) → Q (.ref p) H'
def spLaw (K : PySem.W.Frag) : Sp := fun vs H Q _ => ∃ (a : Addr) (ns : List Int), vs = [.ref a] ∧ SqL K H a (ns.map V.int) ∧ ns.length ≤ 63 ∧ ∀ H', Q (.bl true) H'
abbrev LN : List Str := ["_law_script", "_law_deck_here", "_law_some", "_law_at", "_law_it", "_law_mate", "_law_far", "_law_due", "_law_e", "_law_k"]
theorem sc_law : FnScope LN ["_law_script"] (defScope (top 41)) := ⟨rfl, rfl, rfl, by decide +kernel, rfl, by decide +kernel, by decide +kernel⟩
/-- what repr needs of a value of the pool -/
structure Gd (d : PyData) : Prop where
  short : d.leavesShort 50 = true
  sh : d.showable = true
  dp : d.depth ≤ 10
  bk : d.bulk ≤ 1000
/-- a value of the pool -/
def Pl (K : PySem.W.Frag) (H : Hp) (v : V) : Prop := ∃ d, Lf K H v d ∧ Gd d
theorem Pl.same {H H' : Hp} {v : V} (p : Pl K H v) (s : Same H H') : Pl K H' v := let ⟨d, h, g⟩ := p; ⟨d, h.same s, g⟩
theorem pool_facts {H1 : Hp} {r1 r2 r3 r4 r5 r6 r7 r8 p : Addr} {o1 o2 o3 o4 o5 o6 o7 o8 o9 : HO} (h1 : H1 r1 = none) (h2 : upd H1 r1 o1 r2 = none) (h3 : upd (upd H1 r1 o1) r2 o2 r3 = none) (h4 : upd (upd (upd H1 r1 o1) r2 o2) r3 o3 r4 = none) (h5 : upd (upd (upd (upd H1 r1 o1) r2 o2) r3 o3) r4 o4 r5 = none)
    (h6 : upd (upd (upd (upd (upd H1 r1 o1) r2 o2) r3 o3) r4 o4) r5 o5 r6 = none) (h7 : upd (upd (upd (upd (upd (upd H1 r1 o1) r2 o2) r3 o3) r4 o4) r5 o5) r6 o6 r7 = none) (h8 : upd (upd (upd (upd (upd (upd (upd H1 r1 o1) r2 o2) r3 o3) r4 o4) r5 o5) r6 o6) r7 o7 r8 = none)
    (hp : upd (upd (upd (upd (upd (upd (upd (upd (upd H1 r1 o1) r2 o2) r3 o3) r4 o4) r5 o5) r6 o6) r7 o7) r8 o8) r8 o9 p = none) :
    (∀ op b o, H1 b = some o → upd (upd (upd (upd (upd (upd (upd (upd (upd (upd H1 r1 o1) r2 o2) r3 o3) r4 o4) r5 o5) r6 o6) r7 o7) r8 o8) r8 o9) p op b = some o) ∧
    (∀ op, upd (upd (upd (upd (upd (upd (upd (upd (upd (upd H1 r1 o1) r2 o2) r3 o3) r4 o4) r5 o5) r6 o6) r7 o7) r8 o8) r8 o9) p op r1 = some o1) ∧
    (∀ op, upd (upd (upd (upd (upd (upd (upd (upd (upd (upd H1 r1 o1) r2 o2) r3 o3) r4 o4) r5 o5) r6 o6) r7 o7) r8 o8) r8 o9) p op r2 = some o2) ∧
    (∀ op, upd (upd (upd (upd (upd (upd (upd (upd (upd (upd H1 r1 o1) r2 o2) r3 o3) r4 o4) r5 o5) r6 o6) r7 o7) r8 o8) r8 o9) p op r3 = some o3) ∧
    (∀ op, upd (upd (upd (upd (upd (upd (upd (upd (upd (upd H1 r1 o1) r2 o2) r3 o3) r4 o4) r5 o5) r6 o6) r7 o7) r8 o8) r8 o9) p op r4 = some o4) ∧
    (∀ op, upd (upd (upd (upd (upd (upd (upd (upd (upd (upd H1 r1 o1) r2 o2) r3 o3) r4 o4) r5 o5) r6 o6) r7 o7) r8 o8) r8 o9) p op r5 = some o5) ∧
    (∀ op, upd (upd (upd (upd (upd (upd (upd (upd (upd (upd H1 r1 o1) r2 o2) r3 o3) r4 o4) r5 o5) r6 o6) r7 o7) r8 o8) r8 o9) p op r6 = some o6) ∧
    (∀ op, upd (upd (upd (upd (upd (upd (upd (upd (upd (upd H1 r1 o1) r2 o2) r3 o3) r4 o4) r5 o5) r6 o6) r7 o7) r8 o8) r8 o9) p op r7 = some o7) ∧
    (∀ op, upd (upd (upd (upd (upd (upd (upd (upd (upd (upd H1 r1 o1) r2 o2) r3 o3) r4 o4) r5 o5) r6 o6) r7 o7) r8 o8) r8 o9) p op r8 = some o9) ∧
    (∀ op, upd (upd (upd (upd (upd (upd (upd (upd (upd (upd H1 r1 o1) r2 o2) r3 o3) r4 o4) r5 o5) r6 o6) r7 o7) r8 o8) r8 o9) p op p = some op) := by
  have up8 : ∀ {b o}, upd (upd (upd (upd (upd (upd (upd H1 r1 o1) r2 o2) r3 o3) r4 o4) r5 o5) r6 o6) r7 o7 b = some o → ∀ op, upd (upd (upd (upd (upd (upd (upd (upd (upd (upd H1 r1 o1) r2 o2) r3 o3) r4 o4) r5 o5) r6 o6) r7 o7) r8 o8) r8 o9) p op b = some o := fun {b o} h op => by
    have z : upd (upd (upd (upd (upd (upd (upd (upd (upd H1 r1 o1) r2 o2) r3 o3) r4 o4) r5 o5) r6 o6) r7 o7) r8 o8) r8 o9 b = some o := by rw [upd_ne (ne_of_none h h8)]; exact upS h h8
    exact upS z hp
  exact ⟨fun op b o h => up8 (upS (upS (upS (upS (upS (upS (upS h h1) h2) h3) h4) h5) h6) h7) op, up8 (upS (upS (upS (upS (upS (upS upd_same h2) h3) h4) h5) h6) h7), up8 (upS (upS (upS (upS (upS upd_same h3) h4) h5) h6) h7), up8 (upS (upS (upS (upS upd_same h4) h5) h6) h7),
    up8 (upS (upS (upS upd_same h5) h6) h7), up8 (upS (upS upd_same h6) h7), up8 (upS upd_same h7), up8 upd_same, fun op => upS upd_same hp, fun op => upd_same⟩
theorem new_ones {H1 : Hp} {d l r1 r2 r3 r4 r5 r6 r7 r8 p : Addr} {u v o1 o2 o3 o4 o5 o6 o7 o8 o9 : HO} (hd : H1 d = some u) (hl : H1 l = some v) (h1 : H1 r1 = none) (h2 : upd H1 r1 o1 r2 = none) (h3 : upd (upd H1 r1 o1) r2 o2 r3 = none) (h4 : upd (upd (upd H1 r1 o1) r2 o2) r3 o3 r4 = none) (h5 : upd (upd (upd (upd H1 r1 o1) r2 o2) r3 o3) r4 o4 r5 = none)
    (h6 : upd (upd (upd (upd (upd H1 r1 o1) r2 o2) r3 o3) r4 o4) r5 o5 r6 = none) (h7 : upd (upd (upd (upd (upd (upd H1 r1 o1) r2 o2) r3 o3) r4 o4) r5 o5) r6 o6 r7 = none) (h8 : upd (upd (upd (upd (upd (upd (upd H1 r1 o1) r2 o2) r3 o3) r4 o4) r5 o5) r6 o6) r7 o7 r8 = none)
    (hp : upd (upd (upd (upd (upd (upd (upd (upd (upd H1 r1 o1) r2 o2) r3 o3) r4 o4) r5 o5) r6 o6) r7 o7) r8 o8) r8 o9 p = none) :
    p ≠ d ∧ p ≠ l ∧ r1 ≠ d ∧ r1 ≠ l ∧ r2 ≠ d ∧ r2 ≠ l ∧ r3 ≠ d ∧ r3 ≠ l ∧ r4 ≠ d ∧ r4 ≠ l ∧ r5 ≠ d ∧ r5 ≠ l ∧ r6 ≠ d ∧ r6 ≠ l ∧ r7 ≠ d ∧ r7 ≠ l ∧ r8 ≠ d ∧ r8 ≠ l := by
  have z : ∀ {b : Addr} {o : HO}, H1 b = some o → p ≠ b ∧ r1 ≠ b ∧ r2 ≠ b ∧ r3 ≠ b ∧ r4 ≠ b ∧ r5 ≠ b ∧ r6 ≠ b ∧ r7 ≠ b ∧ r8 ≠ b := fun {b o} h => by
    have e1 := upS (o' := o1) h h1
    have e2 := upS (o' := o2) e1 h2
    have e3 := upS (o' := o3) e2 h3
    have e4 := upS (o' := o4) e3 h4
    have e5 := upS (o' := o5) e4 h5
    have e6 := upS (o' := o6) e5 h6
    have e7 := upS (o' := o7) e6 h7
    have e8 := upS (o' := o8) e7 h8
    have n8 := ne_of_none e7 h8
    have e9 : upd (upd (upd (upd (upd (upd (upd (upd (upd H1 r1 o1) r2 o2) r3 o3) r4 o4) r5 o5) r6 o6) r7 o7) r8 o8) r8 o9 b = some o := by rw [upd_ne n8]; exact e8
    exact ⟨(ne_of_none e9 hp).symm, (ne_of_none h h1).symm, (ne_of_none e1 h2).symm, (ne_of_none e2 h3).symm, (ne_of_none e3 h4).symm, (ne_of_none e4 h5).symm, (ne_of_none e5 h6).symm, (ne_of_none e6 h7).symm, n8.symm⟩
  obtain ⟨a0, a1, a2, a3, a4, a5, a6, a7, a8⟩ := z hd
  obtain ⟨b0, b1, b2, b3, b4, b5, b6, b7, b8⟩ := z hl
  exact ⟨a0, b0, a1, b1, a2, b2, a3, b3, a4, b4, a5, b5, a6, b6, a7, b7, a8, b8⟩
/-- the heap without the deck -/
def cutH (H : Hp) (d l : Addr) : Hp := fun b => if b = d ∨ b = l then none else H b
theorem cut_at {H : Hp} {d l b : Addr} {o : HO} (h : H b = some o) (h1 : b ≠ d) (h2 : b ≠ l) : cutH H d l b = some o := by
  unfold cutH; rw [if_neg (fun z => z.elim h1 h2)]; exact h
theorem cut_keep {H G : Hp} {d l : Addr} (k : Keep d l H G) : Same (cutH H d l) G := fun b o h => by
  unfold cutH at h
  split at h
  · cases h
  · rename_i n; exact k b o (fun z => n (.inl z)) (fun z => n (.inr z)) h
theorem cut_step {H G G2 : Hp} {d l : Addr} (s : Same (cutH H d l) G) (k : Keep d l G G2) : Same (cutH H d l) G2 := fun b o h => by
  have n1 : b ≠ d := fun z => by rw [z] at h; unfold cutH at h; rw [if_pos (.inl rfl)] at h; cases h
  have n2 : b ≠ l := fun z => by rw [z] at h; unfold cutH at h; rw [if_pos (.inr rfl)] at h; cases h
  exact k b o n1 n2 (s b o h)
theorem nm_mem : ∀ k, k < 25 → nmAt k ∈ clsN := by decide +kernel
theorem only0 : ∀ i, i < 25 → (List.range 25).filter (fun k => nmAt i == nmAt k) = [i] := by decide +kernel
theorem only_one (i : Nat) (hi : i < 25) : (((List.range 25).filter fun k => nmAt i == nmAt k).map fun k : Nat => V.int k) = [V.int i] := by rw [only0 i hi]; rfl
theorem none_of : (((List.range 25).filter fun k => ("StreamError" : Str) == nmAt k).map fun k : Nat => V.int k) = [] := by decide +kernel
/-- the rows that an error of the pool's values bears -/
theorem due_data {H : Hp} {it mate far : V} (h1 : Pl K H it) (h2 : Pl K H mate) (h3 : Pl K H far) (n : Nat) : ∃ ds, LfA K H (dueOf n it mate far) ds ∧ PyData.showableAll ds = true ∧ PyData.depthAll ds ≤ 50 ∧ (PyData.shown (.list ds)).length ≤ sizeLine := by
  obtain ⟨d1, l1, g1⟩ := h1
  obtain ⟨d2, l2, g2⟩ := h2
  obtain ⟨d3, l3, g3⟩ := h3
  have a1 := g1.dp
  have a2 := g2.dp
  have a3 := g3.dp
  have c1 := g1.bk
  have c2 := g2.bk
  have c3 := g3.bk
  have big : (1000000 : Nat) ≤ sizeLine := line_big
  have fit : ∀ d : PyData, d.leavesShort 50 = true → d.bulk ≤ 4000 → d.shown.length ≤ sizeLine := fun d h1 h2 => by
    have := PyData.shown_le_bulk 50 (by decide) d h1
    omega
  have e3 : ∃ ds, LfA K H [it, mate, far] ds ∧ PyData.showableAll ds = true ∧ PyData.depthAll ds ≤ 50 ∧ (PyData.shown (.list ds)).length ≤ sizeLine := by
    refine ⟨[d1, d2, d3], .cons l1 (.cons l2 (.cons l3 .nil)), by simp [PyData.showableAll, g1.sh, g2.sh, g3.sh], by simp only [PyData.depthAll]; omega, fit _ (by simp [PyData.leavesShort, PyData.leavesShortAll, g1.short, g2.short, g3.short]) (by simp only [PyData.bulk, PyData.bulkAll]; omega)⟩
  have e2 : ∃ ds, LfA K H [it, mate] ds ∧ PyData.showableAll ds = true ∧ PyData.depthAll ds ≤ 50 ∧ (PyData.shown (.list ds)).length ≤ sizeLine := by
    refine ⟨[d1, d2], .cons l1 (.cons l2 .nil), by simp [PyData.showableAll, g1.sh, g2.sh], by simp only [PyData.depthAll]; omega, fit _ (by simp [PyData.leavesShort, PyData.leavesShortAll, g1.short, g2.short]) (by simp only [PyData.bulk, PyData.bulkAll]; omega)⟩
  have e1 : ∃ ds, LfA K H [it] ds ∧ PyData.showableAll ds = true ∧ PyData.depthAll ds ≤ 50 ∧ (PyData.shown (.list ds)).length ≤ sizeLine := by
    refine ⟨[d1], .cons l1 .nil, by simp [PyData.showableAll, g1.sh], by simp only [PyData.depthAll]; omega, fit _ (by simp [PyData.leavesShort, PyData.leavesShortAll, g1.short]) (by simp only [PyData.bulk, PyData.bulkAll]; omega)⟩
  have e0 : ∃ ds, LfA K H [] ds ∧ PyData.showableAll ds = true ∧ PyData.depthAll ds ≤ 50 ∧ (PyData.shown (.list ds)).length ≤ sizeLine := by
    refine ⟨[], .nil, by simp [PyData.showableAll], by simp [PyData.depthAll], fit _ (by simp [PyData.leavesShort, PyData.leavesShortAll]) (by simp [PyData.bulk, PyData.bulkAll])⟩
  unfold dueOf
  split
  · exact e1
  · split
    · exact e3
    · split
      · exact e3
      · split
        · exact e2
        · exact e0
theorem ok_law {f fDk fD fPk f0 f1 f2 f3 f4 fMa fKe fKi fUs fCa : Addr} {fd fdDk fdD fdPk fd0 fd1 fd2 fd3 fd4 fdMa fdKe fdKi fdUs fdCa : FuncData} (F : FnP K "law" 41 f fd)
    (FDk : FnP K "_law_deck" 28 fDk fdDk) (FD : FnP K "_law_draw" 29 fD fdD) (FPk : FnP K "_law_pick" 30 fPk fdPk) (F0 : FnP K "_law_made_0" 31 f0 fd0) (F1 : FnP K "_law_made_1" 32 f1 fd1) (F2 : FnP K "_law_made_2" 33 f2 fd2) (F3 : FnP K "_law_bare" 34 f3 fd3) (F4 : FnP K "_law_wide" 35 f4 fd4)
    (FMa : FnP K "_law_made" 36 fMa fdMa) (FKe : FnP K "_law_kept" 37 fKe fdKe) (FKi : FnP K "_law_kinds" 38 fKi fdKi) (FUs : FnP K "_law_is_usual" 39 fUs fdUs) (FCa : FnP K "_law_caught" 40 fCa fdCa)
    (gDk : mg "_law_deck" = some (.ref fDk)) (gD : mg "_law_draw" = some (.ref fD)) (gPk : mg "_law_pick" = some (.ref fPk)) (m0 : mg "_law_made_0" = some (.ref f0)) (m1 : mg "_law_made_1" = some (.ref f1)) (m2 : mg "_law_made_2" = some (.ref f2)) (m3 : mg "_law_bare" = some (.ref f3)) (m4 : mg "_law_wide" = some (.ref f4))
    (gMa : mg "_law_made" = some (.ref fMa)) (gKe : mg "_law_kept" = some (.ref fKe)) (gKi : mg "_law_kinds" = some (.ref fKi)) (gUs : mg "_law_is_usual" = some (.ref fUs)) (gCa : mg "_law_caught" = some (.ref fCa))
    (gI : mg "int" = none) (gLi : mg "list" = none) (gL : mg "len" = none) (gRa : mg "range" = none) (gIs : mg "isinstance" = none) (gR : mg "repr" = none) (gEx : mg "Exception" = none) (gVE : mg "ValueError" = none) (gLE : mg "LookupError" = none) (gTE : mg "TypeError" = none) (gAE : mg "ArithmeticError" = none) (gRE : mg "RuntimeError" = none) (Z : Facts K mg)
    (GCa : FnOk P w K mg base CX0 4 fCa fdCa ["_law_at", "_law_it"] (spCaught K)) :
    FnG P w K mg base 5 f fd ["_law_script"] (spLaw K) := by
  have GDk : FnOk P w K mg base CX0 1 fDk fdDk ["_law_script"] (spDeck K) := ok_deck FDk gI gLi
  have GD : FnOk P w K mg base CX0 1 fD fdD ["_law_deck_here", "_law_many"] spDraw := ok_draw FD gI
  have GPk : FnOk P w K mg base CX0 2 fPk fdPk ["_law_deck_here", "_law_some"] spPick := ok_pick FPk FD gD gI gL
  have GMa : FnOk P w K mg base CX0 4 fMa fdMa ["_law_at", "_law_it", "_law_mate", "_law_far"] (spMade K) := ok_made FMa F0 F1 F2 F3 F4 m0 m1 m2 m3 m4 Z
  have GKe : FnOk P w K mg base CX0 1 fKe fdKe ["_law_at", "_law_e"] (spKept K) := ok_kept FKe Z
  have GKi : FnOk P w K mg base CX0 1 fKi fdKi ["_law_e"] (spKinds K) := ok_kinds FKi Z gIs gRa
  have GUs : FnOk P w K mg base CX0 1 fUs fdUs ["_law_e"] (spUsual K) := ok_usual FUs Z gIs gVE gLE gTE gAE gRE
  have bDk : Binds K fdDk ["_law_script"] [] := FDk.bindsN fun _ _ _ _ _ _ us hl => match us, hl with | [_], _ => rfl
  have bD : Binds K fdD ["_law_deck_here", "_law_many"] [] := FD.bindsN fun _ _ _ _ _ _ us hl => match us, hl with | [_, _], _ => rfl
  have bPk : Binds K fdPk ["_law_deck_here", "_law_some"] [] := FPk.bindsN fun _ _ _ _ _ _ us hl => match us, hl with | [_, _], _ => rfl
  have bMa : Binds K fdMa ["_law_at", "_law_it", "_law_mate", "_law_far"] [] := FMa.bindsN fun _ _ _ _ _ _ us hl => match us, hl with | [_, _, _, _], _ => rfl
  have bKe : Binds K fdKe ["_law_at", "_law_e"] [] := FKe.bindsN fun _ _ _ _ _ _ us hl => match us, hl with | [_, _], _ => rfl
  have bKi : Binds K fdKi ["_law_e"] [] := FKi.bindsN fun _ _ _ _ _ _ us hl => match us, hl with | [_], _ => rfl
  have bUs : Binds K fdUs ["_law_e"] [] := FUs.bindsN fun _ _ _ _ _ _ us hl => match us, hl with | [_], _ => rfl
  have bCa : Binds K fdCa ["_law_at", "_law_it"] [] := FCa.bindsN fun _ _ _ _ _ _ us hl => match us, hl with | [_, _], _ => rfl
  refine fng_of F sc_law (fun vs H Q E h => ?_) (fun cdv A outer s H vs Q E hG hr h => ?_)
  · obtain ⟨a, ns, rfl, _⟩ := h; rfl
  · obtain ⟨a0, ns, rfl, hS, hn, k⟩ := h
    have lz := line_big
    have hu := hu_of hr
    refine ⟨_, PSs.nox (pss_cons (ps_set (i := 1) sc_law.nd rfl (Or.inr rfl) (pe_call GDk (hr.mono (by decide)) (by rfl) gDk FDk.kp bDk .nil pass0 (pa_cons (pv 0) pa_nil)))
      (pss_cons (ps_set (i := 2) sc_law.nd rfl (Or.inr rfl) (pe_lst (pa_cons pe_int (pa_cons (pe_un un_neg pe_int) (pa_cons (pe_op op_pow pe_int pe_int) (pa_cons pe_bl (pa_cons pe_bl (pa_cons pe_non (pa_cons pe_str (pa_cons pe_str (pa_cons (pe_op op_mulT pe_str pe_int) (pa_cons (pe_tup pa_nil) (pa_cons (pe_lst pa_nil) (pa_cons pe_dnewK (pa_cons (pe_tup (pa_cons pe_int (pa_cons pe_str pa_nil))) (pa_cons (pe_tup (pa_cons pe_str (pa_cons pe_str pa_nil))) (pa_cons (pe_lst (pa_cons (pe_lst pa_nil) pa_nil)) (pa_cons (pe_disp (pps_cons pe_str pe_int pps_nil) rfl rfl (by simp) (by decide)) pa_nil))))))))))))))))))
      (pss_cons (ps_for PassesOwn.never rfl (pi_range1 rfl gRa (pa_cons pe_int pa_nil)) (pg_name (i := 3) sc_law.nd rfl (Or.inl rfl))
        (pss_cons (ps_asg (pe_lc (own := [("_law_k", 9)]) (g := gName 9) (tt := tYes) rfl sc_law.nd (pi_range1 rfl gRa (pa_cons pe_int pa_nil)) (blkOk_by (N := LN) (sc := defScope (top 41)) (by decide +kernel)) (fun _ _ _ _ _ => pg_name (i := 9) sc_law.nd rfl (Or.inl rfl)) (fun _ _ _ _ _ => pts_nil) (fun _ _ _ _ _ => (pe_call GPk (hr.mono (by decide)) (by rfl) gPk FPk.kp bPk .nil pass0 (pa_cons (pv 1) (pa_cons (pv 2) pa_nil))))) (pg_unl rfl (pgs_cons (pg_name (i := 4) sc_law.nd rfl (Or.inl rfl)) (pgs_cons (pg_name (i := 5) sc_law.nd rfl (Or.inl rfl)) (pgs_cons (pg_name (i := 6) sc_law.nd rfl (Or.inl rfl)) pgs_nil)))))
          (pss_cons (ps_set (i := 7) sc_law.nd rfl (Or.inl rfl) (pe_ifExp (pt_cmpR op_lt (pv 3) pe_int (nomark _)) (pe_lst (pa_cons (pv 4) pa_nil)) (pe_lst pa_nil)))
          (pss_cons (ps_if (pt_cmpR op_ge (pv 3) pe_int (nomark _)) (pss_one (ps_set (i := 7) sc_law.nd rfl (Or.inl rfl) (pe_ifExp (pt_cmpR op_eq (pv 3) pe_int (nomark _)) (pe_lst (pa_cons (pv 4) (pa_cons (pv 5) pa_nil))) (pe_lst (pa_cons (pv 4) (pa_cons (pv 5) (pa_cons (pv 6) pa_nil))))))) pss_nil)
          (pss_one (ps_for PassesOwn.never rfl (pi_list (pe_call GMa (hr.mono (by decide)) (by rfl) gMa FMa.kp bMa .nil pass0 (pa_cons (pv 3) (pa_cons (pv 4) (pa_cons (pv 5) (pa_cons (pv 6) pa_nil)))))) (pg_name (i := 8) sc_law.nd rfl (Or.inl rfl)) (pss_cons (ps_if (PW.pt (pw_or (pt_not (pt_val (pe_callB (call_xis Z.G) (by rfl) gIs boot_isinstance (pa_cons (pv 8) (pa_cons (pe_glob (v := .ref (He.ga K "StreamError")) (by rfl) (Z.mgC "StreamError" (by decide)) rfl) pa_nil))))) (pw_or (pt_not (pt_val (pe_callB (call_xis Z.G) (by rfl) gIs boot_isinstance (pa_cons (pv 8) (pa_cons (pe_bltn (v := .ty "Exception") (by rfl) gEx (by decide +kernel) rfl) pa_nil))))) (pw_or1 (pt_cmpR (op_neG hr.units) (pe_call GKi (hr.mono (by decide)) (by rfl) gKi FKi.kp bKi .nil pass0 (pa_cons (pv 8) pa_nil)) (pe_lst (pa_cons (pv 3) pa_nil)) (nomark _)))))) (pss_one (ps_ret pe_bl)) pss_nil) (pss_one (ps_if (PW.pt (pw_or (pt_cmpR op_ne (pe_callB (call_reprL hG hr.units) (by rfl) gR boot_repr (pa_cons (pe_call GKe (hr.mono (by decide)) (by rfl) gKe FKe.kp bKe .nil pass0 (pa_cons (pv 3) (pa_cons (pv 8) pa_nil))) pa_nil)) (pe_callB (call_reprL hG hr.units) (by rfl) gR boot_repr (pa_cons (pv 7) pa_nil)) (nomark _)) (pw_or1 (pt_val (pe_call GUs (hr.mono (by decide)) (by rfl) gUs FUs.kp bUs .nil pass0 (pa_cons (pv 8) pa_nil)))))) (pss_one (ps_ret pe_bl)) pss_nil)))))))))
      (pss_cons (ps_set (i := 3) sc_law.nd rfl (Or.inl rfl) (pe_call GD (hr.mono (by decide)) (by rfl) gD FD.kp bD .nil pass0 (pa_cons (pv 1) (pa_cons pe_int pa_nil))))
      (pss_cons (ps_if (pt_cmpR (op_neG hr.units) (pe_call GCa (hr.mono (by decide)) (by rfl) gCa FCa.kp bCa .nil pass0 (pa_cons (pv 3) (pa_cons (pe_call GPk (hr.mono (by decide)) (by rfl) gPk FPk.kp bPk .nil pass0 (pa_cons (pv 1) (pa_cons (pv 2) pa_nil))) pa_nil))) (pe_lst (pa_cons (pe_ix ix_list (pe_lst (pa_cons pe_int (pa_cons pe_int (pa_cons pe_int (pa_cons pe_int (pa_cons pe_int pa_nil)))))) (pv 3) (fun _ _ => rfl)) pa_nil)) (nomark _)) (pss_one (ps_ret pe_bl)) pss_nil)
      (pss_one (ps_ret (pe_cmpR (op_eqG hr.units) (pe_call GKi (hr.mono (by decide)) (by rfl) gKi FKi.kp bKi .nil pass0 (pa_cons (pe_xmk0 (Z.bare "StreamError" (by decide)) (Z.T "StreamError" (by decide)).kp (by rfl) (Z.mgC "StreamError" (by decide))) pa_nil)) (pe_lst pa_nil) (nomark _))))))))), ?_⟩
    refine ⟨_, rfl, a0, ns, rfl, hS, hn, fun d l ms br H1 D1 s1 => ?_⟩
    refine ⟨1, rfl, _, _, rfl, rfl, ⟨by decide, by decide, by decide⟩, _, _, rfl, rfl, by decide, by decide, by decide, by decide, fun us hus hcs => ⟨by show 0 ≤ sizeLine; omega, fun r1 h1 => ⟨by show 0 ≤ sizeLine; omega, fun r2 h2 => fun r3 h3 => ⟨by show 2 ≤ sizeLine; omega, fun r4 h4 => ⟨by show 2 ≤ sizeLine; omega, fun r5 h5 => ⟨by show 0 ≤ sizeLine; omega, fun r6 h6 => ⟨by show 1 ≤ sizeLine; omega, fun r7 h7 => fun r8 h8 => ⟨upd_same, [(.inr "a", .int 1)], rfl, by show 1 ≤ 15; omega, by show 16 ≤ sizeLine; omega, fun p hp => ?_⟩⟩⟩⟩⟩⟩⟩⟩
    obtain ⟨sP, g1, g2, g3, g4, g5, g6, g7, g8, gp⟩ := pool_facts h1 h2 h3 h4 h5 h6 h7 h8 hp
    have sP := sP (.lst [V.int 0, V.int (-1), V.int (10 ^ (39 : Int).toNat), V.bl true, V.bl false, V.non, V.str "", V.str "moves", V.str us, V.ref r1, V.ref r2, V.ref r3, V.ref r4, V.ref r5, V.ref r7, V.ref r8])
    have g1 := g1 (.lst [V.int 0, V.int (-1), V.int (10 ^ (39 : Int).toNat), V.bl true, V.bl false, V.non, V.str "", V.str "moves", V.str us, V.ref r1, V.ref r2, V.ref r3, V.ref r4, V.ref r5, V.ref r7, V.ref r8])
    have g2 := g2 (.lst [V.int 0, V.int (-1), V.int (10 ^ (39 : Int).toNat), V.bl true, V.bl false, V.non, V.str "", V.str "moves", V.str us, V.ref r1, V.ref r2, V.ref r3, V.ref r4, V.ref r5, V.ref r7, V.ref r8])
    have g3 := g3 (.lst [V.int 0, V.int (-1), V.int (10 ^ (39 : Int).toNat), V.bl true, V.bl false, V.non, V.str "", V.str "moves", V.str us, V.ref r1, V.ref r2, V.ref r3, V.ref r4, V.ref r5, V.ref r7, V.ref r8])
    have g4 := g4 (.lst [V.int 0, V.int (-1), V.int (10 ^ (39 : Int).toNat), V.bl true, V.bl false, V.non, V.str "", V.str "moves", V.str us, V.ref r1, V.ref r2, V.ref r3, V.ref r4, V.ref r5, V.ref r7, V.ref r8])
    have g5 := g5 (.lst [V.int 0, V.int (-1), V.int (10 ^ (39 : Int).toNat), V.bl true, V.bl false, V.non, V.str "", V.str "moves", V.str us, V.ref r1, V.ref r2, V.ref r3, V.ref r4, V.ref r5, V.ref r7, V.ref r8])
    have g6 := g6 (.lst [V.int 0, V.int (-1), V.int (10 ^ (39 : Int).toNat), V.bl true, V.bl false, V.non, V.str "", V.str "moves", V.str us, V.ref r1, V.ref r2, V.ref r3, V.ref r4, V.ref r5, V.ref r7, V.ref r8])
    have g7 := g7 (.lst [V.int 0, V.int (-1), V.int (10 ^ (39 : Int).toNat), V.bl true, V.bl false, V.non, V.str "", V.str "moves", V.str us, V.ref r1, V.ref r2, V.ref r3, V.ref r4, V.ref r5, V.ref r7, V.ref r8])
    have g8 := g8 (.lst [V.int 0, V.int (-1), V.int (10 ^ (39 : Int).toNat), V.bl true, V.bl false, V.non, V.str "", V.str "moves", V.str us, V.ref r1, V.ref r2, V.ref r3, V.ref r4, V.ref r5, V.ref r7, V.ref r8])
    have gp := gp (.lst [V.int 0, V.int (-1), V.int (10 ^ (39 : Int).toNat), V.bl true, V.bl false, V.non, V.str "", V.str "moves", V.str us, V.ref r1, V.ref r2, V.ref r3, V.ref r4, V.ref r5, V.ref r7, V.ref r8])
    have n0 : ∀ {r : Addr} {o : HO} {G : Hp}, G r = some o → (∀ ns, o ≠ .dK (dk l br ns)) → (∀ xs, o ≠ .lst xs ∨ r ≠ l) → True := fun _ _ _ => trivial
    have nd : p ≠ d ∧ p ≠ l ∧ r1 ≠ d ∧ r1 ≠ l ∧ r2 ≠ d ∧ r2 ≠ l ∧ r3 ≠ d ∧ r3 ≠ l ∧ r4 ≠ d ∧ r4 ≠ l ∧ r5 ≠ d ∧ r5 ≠ l ∧ r6 ≠ d ∧ r6 ≠ l ∧ r7 ≠ d ∧ r7 ≠ l ∧ r8 ≠ d ∧ r8 ≠ l := new_ones D1.at_ D1.left h1 h2 h3 h4 h5 h6 h7 h8 hp
    have DP := D1.same (fun b o hb => sP b o hb)
    generalize upd (upd (upd (upd (upd (upd (upd (upd (upd (upd H1 r1 (.tup [])) r2 (.lst [])) r3 (.dK [])) r4 (.tup [V.int 0, V.str "a"])) r5 (.tup [V.str "", V.str "b"])) r6 (.lst [])) r7 (.lst [V.ref r6])) r8 (.dK [])) r8 (.dK (mergeK [] [(.inr "a", .int 1)]))) p (.lst [V.int 0, V.int (-1), V.int (10 ^ (39 : Int).toNat), V.bl true, V.bl false, V.non, V.str "", V.str "moves", V.str us, V.ref r1, V.ref r2, V.ref r3, V.ref r4, V.ref r5, V.ref r7, V.ref r8]) = HP at sP g1 g2 g3 g4 g5 g6 g7 g8 gp DP ⊢
    obtain ⟨np1, np2, a11, a12, a21, a22, a31, a32, a41, a42, a51, a52, a61, a62, a71, a72, a81, a82⟩ := nd
    have em : mergeK [] [((.inr "a" : Key), V.int 1)] = [(.inr "a", .int 1)] := by simp [mergeK, putK]
    rw [em] at g8
    obtain ⟨HQ, eHQ⟩ : ∃ HQ, HQ = cutH HP d l := ⟨_, rfl⟩
    have q1 : HQ r1 = some (.tup []) := by rw [eHQ]; exact cut_at g1 a11 a12
    have q2 : HQ r2 = some (.lst []) := by rw [eHQ]; exact cut_at g2 a21 a22
    have q3 : HQ r3 = some (.dK []) := by rw [eHQ]; exact cut_at g3 a31 a32
    have q4 : HQ r4 = some (.tup [V.int 0, V.str "a"]) := by rw [eHQ]; exact cut_at g4 a41 a42
    have q5 : HQ r5 = some (.tup [V.str "", V.str "b"]) := by rw [eHQ]; exact cut_at g5 a51 a52
    have q6 : HQ r6 = some (.lst []) := by rw [eHQ]; exact cut_at g6 a61 a62
    have q7 : HQ r7 = some (.lst [V.ref r6]) := by rw [eHQ]; exact cut_at g7 a71 a72
    have q8 : HQ r8 = some (.dK [(.inr "a", .int 1)]) := by rw [eHQ]; exact cut_at g8 a81 a82
    have qp : HQ p = some (.lst [V.int 0, V.int (-1), V.int (10 ^ (39 : Int).toNat), V.bl true, V.bl false, V.non, V.str "", V.str "moves", V.str us, V.ref r1, V.ref r2, V.ref r3, V.ref r4, V.ref r5, V.ref r7, V.ref r8]) := by rw [eHQ]; exact cut_at gp np1 np2
    have sQ : Same HQ HP := fun b o h => by
      rw [eHQ] at h; unfold cutH at h
      split at h
      · cases h
      · exact h
    have stepQ : ∀ {G G2 : Hp}, Same HQ G → Keep d l G G2 → Same HQ G2 := fun s k => by
      rw [eHQ] at s ⊢; exact cut_step s k
    have ua : us.cps.toList.all (fun c => decide (c < 128)) = true := List.all_eq_true.mpr fun c hc => decide_eq_true (by
      have z := hcs c hc
      rw [show (("a" : Str)).cps.toList = [97] by decide] at z
      have := List.mem_singleton.mp z
      omega)
    have ul : us.cps.size = 60 := hus.trans (by decide)
    have plQ : ∀ v ∈ [V.int 0, V.int (-1), V.int (10 ^ (39 : Int).toNat), V.bl true, V.bl false, V.non, V.str "", V.str "moves", V.str us, V.ref r1, V.ref r2, V.ref r3, V.ref r4, V.ref r5, V.ref r7, V.ref r8], Pl K HQ v := fun v hv => by
      simp only [List.mem_cons, List.not_mem_nil, or_false] at hv
      rcases hv with rfl | rfl | rfl | rfl | rfl | rfl | rfl | rfl | rfl | rfl | rfl | rfl | rfl | rfl | rfl | rfl
      · exact ⟨_, .data (.int _), ⟨by decide +kernel, by decide +kernel, by decide +kernel, by decide +kernel⟩⟩
      · exact ⟨_, .data (.int _), ⟨by decide +kernel, by decide +kernel, by decide +kernel, by decide +kernel⟩⟩
      · exact ⟨_, .data (.int _), ⟨by decide +kernel, by decide +kernel, by decide +kernel, by decide +kernel⟩⟩
      · exact ⟨_, .data (.bl _), ⟨by decide +kernel, by decide +kernel, by decide +kernel, by decide +kernel⟩⟩
      · exact ⟨_, .data (.bl _), ⟨by decide +kernel, by decide +kernel, by decide +kernel, by decide +kernel⟩⟩
      · exact ⟨_, .data .non, ⟨by decide +kernel, by decide +kernel, by decide +kernel, by decide +kernel⟩⟩
      · exact ⟨_, .data (.str _), ⟨by decide +kernel, by decide +kernel, by decide +kernel, by decide +kernel⟩⟩
      · exact ⟨_, .data (.str _), ⟨by decide +kernel, by decide +kernel, by decide +kernel, by decide +kernel⟩⟩
      · refine ⟨_, .data (.str us), ⟨?_, by simp [PyData.showable], by simp [PyData.depth], by simp only [PyData.bulk]; omega⟩⟩
        simp only [PyData.leavesShort]
        exact List.all_eq_true.mpr fun c hc => decide_eq_true (Nat.lt_of_lt_of_le (of_decide_eq_true (List.all_eq_true.mp ua c hc)) (by decide))
      · exact ⟨.tuple [], .data (.tup (SqT.of q1) .nil), ⟨by decide +kernel, by decide +kernel, by decide +kernel, by decide +kernel⟩⟩
      · exact ⟨.list [], .data (.lst (SqL.of q2) .nil), ⟨by decide +kernel, by decide +kernel, by decide +kernel, by decide +kernel⟩⟩
      · exact ⟨_, .dk0 q3, ⟨by decide +kernel, by decide +kernel, by decide +kernel, by decide +kernel⟩⟩
      · exact ⟨.tuple [.int 0, .str "a"], .data (.tup (SqT.of q4) (.cons (.int _) (.cons (.str _) .nil))), ⟨by decide +kernel, by decide +kernel, by decide +kernel, by decide +kernel⟩⟩
      · exact ⟨.tuple [.str "", .str "b"], .data (.tup (SqT.of q5) (.cons (.str _) (.cons (.str _) .nil))), ⟨by decide +kernel, by decide +kernel, by decide +kernel, by decide +kernel⟩⟩
      · exact ⟨.list [.list []], .data (.lst (SqL.of q7) (.cons (.lst (SqL.of q6) .nil) .nil)), ⟨by decide +kernel, by decide +kernel, by decide +kernel, by decide +kernel⟩⟩
      · exact ⟨_, .dk1 q8, ⟨by decide +kernel, by decide +kernel, by decide +kernel, by decide +kernel⟩⟩
    have PLlen : ([V.int 0, V.int (-1), V.int (10 ^ (39 : Int).toNat), V.bl true, V.bl false, V.non, V.str "", V.str "moves", V.str us, V.ref r1, V.ref r2, V.ref r3, V.ref r4, V.ref r5, V.ref r7, V.ref r8]).length = 16 := rfl
    generalize [V.int 0, V.int (-1), V.int (10 ^ (39 : Int).toNat), V.bl true, V.bl false, V.non, V.str "", V.str "moves", V.str us, V.ref r1, V.ref r2, V.ref r3, V.ref r4, V.ref r5, V.ref r7, V.ref r8] = PL at qp plQ PLlen gp ⊢
    refine ⟨25, rfl, by omega, by omega, for_range (lo := 0) (n := 25) (fun i σ G => ∃ (v3 v4 v5 v6 v7 v8 : Option V) (ms : List Int) (dd : Int), σ = [some (.ref a0), some (.ref d), some (.ref p), v3, v4, v5, v6, v7, v8, none] ∧ DeckAt G d l ms br dd ∧ dd ≤ 3 * i ∧ Same HQ G)
      ⟨none, none, none, none, none, none, ms, 0, rfl, DP, by omega, sQ⟩ ?_ ?_⟩
    · rintro i σ G hi ⟨v3, v4, v5, v6, v7, v8, ms2, dd2, rfl, D2, hdd2, s2⟩
      have ei : (0 : Int) + (i : Int) = ((i : Nat) : Int) := by omega
      have hmem := nm_mem i hi
      refine ⟨3, rfl, by omega, by omega, fun B hB => ?_⟩
      have hBd : B ≠ d := (ne_of_none D2.at_ hB).symm
      have hBl : B ≠ l := (ne_of_none D2.left hB).symm
      refine lc_range (lo := 0) (n := 3) (fun j G1 => ∃ (m3 : List Int) (d3 : Int) (acc : List V), DeckAt G1 d l m3 br d3 ∧ d3 = dd2 + j ∧ G1 B = some (.lst acc) ∧ acc.length = j ∧ (∀ v ∈ acc, v ∈ PL) ∧ Same HQ G1) ⟨ms2, dd2, [], D2.beside hB, by omega, upd_same, rfl, (fun v hv => by cases hv), s2.trans (sameU hB)⟩ ?_ ?_
      · rintro j G1 hj ⟨m3, d3, acc, D3, hd3, hacc, hlen, hall, s3⟩
        refine ⟨rfl, _, rfl, _, rfl, d, l, m3, br, d3, p, PL, rfl, D3, by omega, s3 _ _ qp, np2, by omega, by omega, fun v m4 G4 hv D4 kp => ?_⟩
        have hB4 := kp B _ hBd hBl hacc
        exact ⟨acc, hB4, by omega, m4, d3 + 1, acc ++ [v], ⟨by rw [upd_ne hBd.symm]; exact D4.at_, by rw [upd_ne hBl.symm]; exact D4.left, D4.few, D4.lo⟩, by omega, upd_same, by rw [List.length_append, hlen]; rfl, fun y hy => by
          rcases List.mem_append.mp hy with hy | hy
          · exact hall y hy
          · rw [List.mem_singleton.mp hy]; exact hv, fun b o hb => by
          have z := stepQ s3 kp b o hb
          have nb : b ≠ B := ne_of_none (s2 b o hb) hB
          rw [upd_ne nb]; exact z⟩
      · rintro GB ⟨ms3, dd3, acc, DB, hdB, hacc, hlen, hall, sB⟩
        match acc, hlen, hacc, hall with
        | [it, mate, far], _, hacc, hall =>
        have p1 := plQ it (hall it (by simp))
        have p2 := plQ mate (hall mate (by simp))
        have p3 := plQ far (hall far (by simp))
        obtain ⟨ds, hlf0, hds1, hds2, hds3⟩ := due_data (K := K) p1 p2 p3 i
        refine ⟨B, _, rfl, SqL.of hacc, rfl, it, _, rfl, mate, _, rfl, far, _, rfl, rfl, ?_⟩
        rcases (show i < 17 ∨ (17 ≤ i ∧ i < 22) ∨ i = 24 ∨ (i = 22 ∨ i = 23) by omega) with hc | hc | hc | hc
        · have edue : dueOf i it mate far = [it] := by unfold dueOf; rw [if_pos hc]
          refine ⟨_, rfl, _, _, rfl, rfl, _, rfl, ?_⟩
          rw [decide_eq_true (show (0 : Int) + (i : Int) < 17 by omega)]
          refine iteT ⟨_, rfl, by show 1 ≤ sizeLine; omega, fun u hu9 => ?_⟩
          refine ⟨_, rfl, _, _, rfl, rfl, _, rfl, ?_⟩
          rw [decide_eq_false (show ¬ (22 : Int) ≤ 0 + (i : Int) by omega)]
          refine iteF ?_
          rw [← edue]
          have sU : Same HQ (upd GB u (.lst (dueOf i it mate far))) := sB.trans (sameU hu9)
          have DU := DB.beside (o := .lst (dueOf i it mate far)) hu9
          have gu : upd GB u (.lst (dueOf i it mate far)) u = some (.lst (dueOf i it mate far)) := upd_same
          have hlf := hlf0.same sU
          generalize upd GB u (.lst (dueOf i it mate far)) = GU at sU DU gu hlf ⊢
          refine ⟨_, rfl, _, rfl, _, rfl, _, rfl, i, it, mate, far, by rw [ei] <;> rfl, by omega, ?_⟩
          intro p2 e1 e2 H3 hp2 r1 r2 s3
          refine ⟨p2, rfl, ⟨_, SqL.of hp2⟩, for_list (K := K) (a := p2) (xs := [.ref e1, .ref e2]) (fun j σ G => ∃ v8, σ = [some (.ref a0), some (.ref d), some (.ref p), some (.int (0 + (i : Int))), some it, some mate, some far, some (.ref u), v8, none] ∧ Same H3 G) ⟨v8, rfl, Same.refl _⟩ (fun j σ G _ ⟨_, _, e⟩ => SqL.of (e _ _ hp2)) ?_ ?_⟩
          · rintro j y σ G hj ⟨w8, rfl, sG⟩
            obtain ⟨e, rfl, er⟩ : ∃ e, y = .ref e ∧ Er H3 e (He.ga K (nmAt i)) (fldsOf i it mate far) := by
              have := List.mem_of_getElem? hj
              simp only [List.mem_cons, List.not_mem_nil, or_false] at this
              rcases this with rfl | rfl
              · exact ⟨e1, rfl, r1⟩
              · exact ⟨e2, rfl, r2⟩
            have er := er.same sG
            have xo := er.xo
            have T := Z.T (nmAt i) (List.mem_cons_of_mem _ hmem)
            have gdi : Good (.list [.int (0 + (i : Int))]) := ⟨by simp only [okD, okAll, Bool.and_true]; exact decide_eq_true (by omega), by simp [PyData.depth, PyData.depthAll], by simp [PyData.bulk, PyData.bulkAll]⟩
            refine ⟨_, rfl, e, _, .ref (He.ga K "StreamError"), .ref (He.ga K "StreamError"), true, rfl, xo, T, .own _, Z.bas (nmAt i) hmem, true, rfl, iteF ⟨_, rfl, e, _, .ty "Exception", .type "Exception", true, rfl, xo, T, .ty _, Z.exn (nmAt i) hmem, true, rfl, iteF ?_⟩⟩
            refine ⟨_, rfl, e, _, fun k => nmAt i == nmAt k, rfl, xo, T, fun k hk => Z.kit (nmAt i) (List.mem_cons_of_mem _ hmem) (nmAt k) (nm_mem k hk), fun pk Hk sk hpk => ?_⟩
            rw [only_one i hi] at hpk
            refine ⟨_, rfl, by show 1 ≤ sizeLine; omega, fun q hq => ⟨.list [.int (0 + (i : Int))], .list [.int (0 + (i : Int))], .lst (SqL.of (upS (by rw [ei]; exact hpk) hq)) (.cons (.int _) .nil), .lst (SqL.of upd_same) (.cons (.int _) .nil), gdi, gdi, _, rfl, ?_⟩⟩
            rw [eqv_self _ gdi.ok]
            have sG1 : Same H3 (upd Hk q (.lst [.int (0 + (i : Int))])) := fun b o hb => upS (sk _ _ (sG _ _ hb)) hq
            have sE1 : Same G (upd Hk q (.lst [.int (0 + (i : Int))])) := fun b o hb => upS (sk _ _ hb) hq
            generalize upd Hk q (.lst [.int (0 + (i : Int))]) = G1 at sG1 sE1 ⊢
            refine iteF ?_
            refine ⟨_, rfl, _, rfl, i, e, it, mate, far, by rw [ei] <;> rfl, by omega, er.same sE1, fun pk2 Hk2 sk2 hpk2 => ?_⟩
            have s2 : Same H3 Hk2 := sG1.trans sk2
            have lfu : LfA K Hk2 (dueOf i it mate far) ds := hlf.same (s3.trans s2)
            refine ⟨pk2, _, ds, rfl, SqL.of hpk2, lfu, hds1, hds2, hds3, _, rfl, u, _, ds, rfl, SqL.of (s2 _ _ (s3 _ _ gu)), lfu, hds1, hds2, hds3, rfl, _, rfl, ?_⟩
            refine ite2 (fun h => by simp at h) (fun _ => ?_)
            refine ⟨_, rfl, e, _, rfl, (er.same (sE1.trans sk2)).xo, T, fun t ht => Z.us (nmAt i) hmem t ht, fun Hu su => ⟨false, rfl, iteF ⟨_, rfl, s2.trans su⟩⟩⟩
          · rintro σ G ⟨w8, rfl, sG⟩
            exact ⟨_, _, _, _, _, _, ms3, dd3, rfl, DU.same (s3.trans sG), by omega, sU.trans (s3.trans sG)⟩
        · have edue : dueOf i it mate far = [] := by unfold dueOf; rw [if_neg (by omega), if_neg (by omega), if_neg (by omega), if_neg (by omega)]
          refine ⟨_, rfl, _, _, rfl, rfl, _, rfl, ?_⟩
          rw [decide_eq_false (show ¬ (0 : Int) + (i : Int) < 17 by omega)]
          refine iteF ⟨by show 0 ≤ sizeLine; omega, fun u hu9 => ?_⟩
          refine ⟨_, rfl, _, _, rfl, rfl, _, rfl, ?_⟩
          rw [decide_eq_false (show ¬ (22 : Int) ≤ 0 + (i : Int) by omega)]
          refine iteF ?_
          have eU : upd GB u (.lst []) = upd GB u (.lst (dueOf i it mate far)) := by rw [edue]
          rw [eU]
          have sU : Same HQ (upd GB u (.lst (dueOf i it mate far))) := sB.trans (sameU hu9)
          have DU := DB.beside (o := .lst (dueOf i it mate far)) hu9
          have gu : upd GB u (.lst (dueOf i it mate far)) u = some (.lst (dueOf i it mate far)) := upd_same
          have hlf := hlf0.same sU
          generalize upd GB u (.lst (dueOf i it mate far)) = GU at sU DU gu hlf ⊢
          refine ⟨_, rfl, _, rfl, _, rfl, _, rfl, i, it, mate, far, by rw [ei] <;> rfl, by omega, ?_⟩
          intro p2 e1 e2 H3 hp2 r1 r2 s3
          refine ⟨p2, rfl, ⟨_, SqL.of hp2⟩, for_list (K := K) (a := p2) (xs := [.ref e1, .ref e2]) (fun j σ G => ∃ v8, σ = [some (.ref a0), some (.ref d), some (.ref p), some (.int (0 + (i : Int))), some it, some mate, some far, some (.ref u), v8, none] ∧ Same H3 G) ⟨v8, rfl, Same.refl _⟩ (fun j σ G _ ⟨_, _, e⟩ => SqL.of (e _ _ hp2)) ?_ ?_⟩
          · rintro j y σ G hj ⟨w8, rfl, sG⟩
            obtain ⟨e, rfl, er⟩ : ∃ e, y = .ref e ∧ Er H3 e (He.ga K (nmAt i)) (fldsOf i it mate far) := by
              have := List.mem_of_getElem? hj
              simp only [List.mem_cons, List.not_mem_nil, or_false] at this
              rcases this with rfl | rfl
              · exact ⟨e1, rfl, r1⟩
              · exact ⟨e2, rfl, r2⟩
            have er := er.same sG
            have xo := er.xo
            have T := Z.T (nmAt i) (List.mem_cons_of_mem _ hmem)
            have gdi : Good (.list [.int (0 + (i : Int))]) := ⟨by simp only [okD, okAll, Bool.and_true]; exact decide_eq_true (by omega), by simp [PyData.depth, PyData.depthAll], by simp [PyData.bulk, PyData.bulkAll]⟩
            refine ⟨_, rfl, e, _, .ref (He.ga K "StreamError"), .ref (He.ga K "StreamError"), true, rfl, xo, T, .own _, Z.bas (nmAt i) hmem, true, rfl, iteF ⟨_, rfl, e, _, .ty "Exception", .type "Exception", true, rfl, xo, T, .ty _, Z.exn (nmAt i) hmem, true, rfl, iteF ?_⟩⟩
            refine ⟨_, rfl, e, _, fun k => nmAt i == nmAt k, rfl, xo, T, fun k hk => Z.kit (nmAt i) (List.mem_cons_of_mem _ hmem) (nmAt k) (nm_mem k hk), fun pk Hk sk hpk => ?_⟩
            rw [only_one i hi] at hpk
            refine ⟨_, rfl, by show 1 ≤ sizeLine; omega, fun q hq => ⟨.list [.int (0 + (i : Int))], .list [.int (0 + (i : Int))], .lst (SqL.of (upS (by rw [ei]; exact hpk) hq)) (.cons (.int _) .nil), .lst (SqL.of upd_same) (.cons (.int _) .nil), gdi, gdi, _, rfl, ?_⟩⟩
            rw [eqv_self _ gdi.ok]
            have sG1 : Same H3 (upd Hk q (.lst [.int (0 + (i : Int))])) := fun b o hb => upS (sk _ _ (sG _ _ hb)) hq
            have sE1 : Same G (upd Hk q (.lst [.int (0 + (i : Int))])) := fun b o hb => upS (sk _ _ hb) hq
            generalize upd Hk q (.lst [.int (0 + (i : Int))]) = G1 at sG1 sE1 ⊢
            refine iteF ?_
            refine ⟨_, rfl, _, rfl, i, e, it, mate, far, by rw [ei] <;> rfl, by omega, er.same sE1, fun pk2 Hk2 sk2 hpk2 => ?_⟩
            have s2 : Same H3 Hk2 := sG1.trans sk2
            have lfu : LfA K Hk2 (dueOf i it mate far) ds := hlf.same (s3.trans s2)
            refine ⟨pk2, _, ds, rfl, SqL.of hpk2, lfu, hds1, hds2, hds3, _, rfl, u, _, ds, rfl, SqL.of (s2 _ _ (s3 _ _ gu)), lfu, hds1, hds2, hds3, rfl, _, rfl, ?_⟩
            refine ite2 (fun h => by simp at h) (fun _ => ?_)
            refine ⟨_, rfl, e, _, rfl, (er.same (sE1.trans sk2)).xo, T, fun t ht => Z.us (nmAt i) hmem t ht, fun Hu su => ⟨false, rfl, iteF ⟨_, rfl, s2.trans su⟩⟩⟩
          · rintro σ G ⟨w8, rfl, sG⟩
            exact ⟨_, _, _, _, _, _, ms3, dd3, rfl, DU.same (s3.trans sG), by omega, sU.trans (s3.trans sG)⟩
        · subst hc
          have edue : dueOf 24 it mate far = [it, mate] := rfl
          refine ⟨_, rfl, _, _, rfl, rfl, _, rfl, iteF ⟨by show 0 ≤ sizeLine; omega, fun u0 hu8 => ?_⟩⟩
          refine ⟨_, rfl, _, _, rfl, rfl, _, rfl, iteT ?_⟩
          refine ⟨_, rfl, rfl, _, rfl, iteT ⟨_, rfl, _, rfl, by show 2 ≤ sizeLine; omega, fun u hu9 => ?_⟩⟩
          have eU : upd (upd GB u0 (.lst [])) u (.lst [it, mate]) = upd (upd GB u0 (.lst [])) u (.lst (dueOf 24 it mate far)) := by rw [edue]
          rw [eU]
          have sU : Same HQ (upd (upd GB u0 (.lst [])) u (.lst (dueOf 24 it mate far))) := (sB.trans (sameU hu8)).trans (sameU hu9)
          have DU := (DB.beside (o := .lst []) hu8).beside (o := .lst (dueOf 24 it mate far)) hu9
          have gu : upd (upd GB u0 (.lst [])) u (.lst (dueOf 24 it mate far)) u = some (.lst (dueOf 24 it mate far)) := upd_same
          have hlf := hlf0.same sU
          generalize upd (upd GB u0 (.lst [])) u (.lst (dueOf 24 it mate far)) = GU at sU DU gu hlf ⊢
          refine ⟨_, rfl, _, rfl, _, rfl, _, rfl, 24, it, mate, far, by rw [ei] <;> rfl, by omega, ?_⟩
          intro p2 e1 e2 H3 hp2 r1 r2 s3
          refine ⟨p2, rfl, ⟨_, SqL.of hp2⟩, for_list (K := K) (a := p2) (xs := [.ref e1, .ref e2]) (fun j σ G => ∃ v8, σ = [some (.ref a0), some (.ref d), some (.ref p), some (.int (0 + ((24 : Nat) : Int))), some it, some mate, some far, some (.ref u), v8, none] ∧ Same H3 G) ⟨v8, rfl, Same.refl _⟩ (fun j σ G _ ⟨_, _, e⟩ => SqL.of (e _ _ hp2)) ?_ ?_⟩
          · rintro j y σ G hj ⟨w8, rfl, sG⟩
            obtain ⟨e, rfl, er⟩ : ∃ e, y = .ref e ∧ Er H3 e (He.ga K (nmAt 24)) (fldsOf 24 it mate far) := by
              have := List.mem_of_getElem? hj
              simp only [List.mem_cons, List.not_mem_nil, or_false] at this
              rcases this with rfl | rfl
              · exact ⟨e1, rfl, r1⟩
              · exact ⟨e2, rfl, r2⟩
            have er := er.same sG
            have xo := er.xo
            have T := Z.T (nmAt 24) (List.mem_cons_of_mem _ hmem)
            have gdi : Good (.list [.int (0 + ((24 : Nat) : Int))]) := ⟨by simp only [okD, okAll, Bool.and_true]; exact decide_eq_true (by omega), by simp [PyData.depth, PyData.depthAll], by simp [PyData.bulk, PyData.bulkAll]⟩
            refine ⟨_, rfl, e, _, .ref (He.ga K "StreamError"), .ref (He.ga K "StreamError"), true, rfl, xo, T, .own _, Z.bas (nmAt 24) hmem, true, rfl, iteF ⟨_, rfl, e, _, .ty "Exception", .type "Exception", true, rfl, xo, T, .ty _, Z.exn (nmAt 24) hmem, true, rfl, iteF ?_⟩⟩
            refine ⟨_, rfl, e, _, fun k => nmAt 24 == nmAt k, rfl, xo, T, fun k hk => Z.kit (nmAt 24) (List.mem_cons_of_mem _ hmem) (nmAt k) (nm_mem k hk), fun pk Hk sk hpk => ?_⟩
            rw [only_one 24 hi] at hpk
            refine ⟨_, rfl, by show 1 ≤ sizeLine; omega, fun q hq => ⟨.list [.int (0 + ((24 : Nat) : Int))], .list [.int (0 + ((24 : Nat) : Int))], .lst (SqL.of (upS (by rw [ei]; exact hpk) hq)) (.cons (.int _) .nil), .lst (SqL.of upd_same) (.cons (.int _) .nil), gdi, gdi, _, rfl, ?_⟩⟩
            rw [eqv_self _ gdi.ok]
            have sG1 : Same H3 (upd Hk q (.lst [.int (0 + ((24 : Nat) : Int))])) := fun b o hb => upS (sk _ _ (sG _ _ hb)) hq
            have sE1 : Same G (upd Hk q (.lst [.int (0 + ((24 : Nat) : Int))])) := fun b o hb => upS (sk _ _ hb) hq
            generalize upd Hk q (.lst [.int (0 + ((24 : Nat) : Int))]) = G1 at sG1 sE1 ⊢
            refine iteF ?_
            refine ⟨_, rfl, _, rfl, 24, e, it, mate, far, by rw [ei] <;> rfl, by omega, er.same sE1, fun pk2 Hk2 sk2 hpk2 => ?_⟩
            have s2 : Same H3 Hk2 := sG1.trans sk2
            have lfu : LfA K Hk2 (dueOf 24 it mate far) ds := hlf.same (s3.trans s2)
            refine ⟨pk2, _, ds, rfl, SqL.of hpk2, lfu, hds1, hds2, hds3, _, rfl, u, _, ds, rfl, SqL.of (s2 _ _ (s3 _ _ gu)), lfu, hds1, hds2, hds3, rfl, _, rfl, ?_⟩
            refine ite2 (fun h => by simp at h) (fun _ => ?_)
            refine ⟨_, rfl, e, _, rfl, (er.same (sE1.trans sk2)).xo, T, fun t ht => Z.us (nmAt 24) hmem t ht, fun Hu su => ⟨false, rfl, iteF ⟨_, rfl, s2.trans su⟩⟩⟩
          · rintro σ G ⟨w8, rfl, sG⟩
            exact ⟨_, _, _, _, _, _, ms3, dd3, rfl, DU.same (s3.trans sG), by omega, sU.trans (s3.trans sG)⟩
        · have edue : dueOf i it mate far = [it, mate, far] := by rcases hc with rfl | rfl <;> rfl
          refine ⟨_, rfl, _, _, rfl, rfl, _, rfl, ?_⟩
          rw [decide_eq_false (show ¬ (0 : Int) + (i : Int) < 17 by omega)]
          refine iteF ⟨by show 0 ≤ sizeLine; omega, fun u0 hu8 => ?_⟩
          refine ⟨_, rfl, _, _, rfl, rfl, _, rfl, ?_⟩
          rw [decide_eq_true (show (22 : Int) ≤ 0 + (i : Int) by omega)]
          refine iteT ?_
          refine ⟨_, rfl, rfl, _, rfl, ?_⟩
          rw [decide_eq_false (show ¬ V.int (0 + (i : Int)) = V.int 24 from fun z => by injection z with z; omega)]
          refine iteF ⟨_, rfl, _, rfl, _, rfl, by show 3 ≤ sizeLine; omega, fun u hu9 => ?_⟩
          have eU : upd (upd GB u0 (.lst [])) u (.lst [it, mate, far]) = upd (upd GB u0 (.lst [])) u (.lst (dueOf i it mate far)) := by rw [edue]
          rw [eU]
          have sU : Same HQ (upd (upd GB u0 (.lst [])) u (.lst (dueOf i it mate far))) := (sB.trans (sameU hu8)).trans (sameU hu9)
          have DU := (DB.beside (o := .lst []) hu8).beside (o := .lst (dueOf i it mate far)) hu9
          have gu : upd (upd GB u0 (.lst [])) u (.lst (dueOf i it mate far)) u = some (.lst (dueOf i it mate far)) := upd_same
          have hlf := hlf0.same sU
          generalize upd (upd GB u0 (.lst [])) u (.lst (dueOf i it mate far)) = GU at sU DU gu hlf ⊢
          refine ⟨_, rfl, _, rfl, _, rfl, _, rfl, i, it, mate, far, by rw [ei] <;> rfl, by omega, ?_⟩
          intro p2 e1 e2 H3 hp2 r1 r2 s3
          refine ⟨p2, rfl, ⟨_, SqL.of hp2⟩, for_list (K := K) (a := p2) (xs := [.ref e1, .ref e2]) (fun j σ G => ∃ v8, σ = [some (.ref a0), some (.ref d), some (.ref p), some (.int (0 + (i : Int))), some it, some mate, some far, some (.ref u), v8, none] ∧ Same H3 G) ⟨v8, rfl, Same.refl _⟩ (fun j σ G _ ⟨_, _, e⟩ => SqL.of (e _ _ hp2)) ?_ ?_⟩
          · rintro j y σ G hj ⟨w8, rfl, sG⟩
            obtain ⟨e, rfl, er⟩ : ∃ e, y = .ref e ∧ Er H3 e (He.ga K (nmAt i)) (fldsOf i it mate far) := by
              have := List.mem_of_getElem? hj
              simp only [List.mem_cons, List.not_mem_nil, or_false] at this
              rcases this with rfl | rfl
              · exact ⟨e1, rfl, r1⟩
              · exact ⟨e2, rfl, r2⟩
            have er := er.same sG
            have xo := er.xo
            have T := Z.T (nmAt i) (List.mem_cons_of_mem _ hmem)
            have gdi : Good (.list [.int (0 + (i : Int))]) := ⟨by simp only [okD, okAll, Bool.and_true]; exact decide_eq_true (by omega), by simp [PyData.depth, PyData.depthAll], by simp [PyData.bulk, PyData.bulkAll]⟩
            refine ⟨_, rfl, e, _, .ref (He.ga K "StreamError"), .ref (He.ga K "StreamError"), true, rfl, xo, T, .own _, Z.bas (nmAt i) hmem, true, rfl, iteF ⟨_, rfl, e, _, .ty "Exception", .type "Exception", true, rfl, xo, T, .ty _, Z.exn (nmAt i) hmem, true, rfl, iteF ?_⟩⟩
            refine ⟨_, rfl, e, _, fun k => nmAt i == nmAt k, rfl, xo, T, fun k hk => Z.kit (nmAt i) (List.mem_cons_of_mem _ hmem) (nmAt k) (nm_mem k hk), fun pk Hk sk hpk => ?_⟩
            rw [only_one i hi] at hpk
            refine ⟨_, rfl, by show 1 ≤ sizeLine; omega, fun q hq => ⟨.list [.int (0 + (i : Int))], .list [.int (0 + (i : Int))], .lst (SqL.of (upS (by rw [ei]; exact hpk) hq)) (.cons (.int _) .nil), .lst (SqL.of upd_same) (.cons (.int _) .nil), gdi, gdi, _, rfl, ?_⟩⟩
            rw [eqv_self _ gdi.ok]
            have sG1 : Same H3 (upd Hk q (.lst [.int (0 + (i : Int))])) := fun b o hb => upS (sk _ _ (sG _ _ hb)) hq
            have sE1 : Same G (upd Hk q (.lst [.int (0 + (i : Int))])) := fun b o hb => upS (sk _ _ hb) hq
            generalize upd Hk q (.lst [.int (0 + (i : Int))]) = G1 at sG1 sE1 ⊢
            refine iteF ?_
            refine ⟨_, rfl, _, rfl, i, e, it, mate, far, by rw [ei] <;> rfl, by omega, er.same sE1, fun pk2 Hk2 sk2 hpk2 => ?_⟩
            have s2 : Same H3 Hk2 := sG1.trans sk2
            have lfu : LfA K Hk2 (dueOf i it mate far) ds := hlf.same (s3.trans s2)
            refine ⟨pk2, _, ds, rfl, SqL.of hpk2, lfu, hds1, hds2, hds3, _, rfl, u, _, ds, rfl, SqL.of (s2 _ _ (s3 _ _ gu)), lfu, hds1, hds2, hds3, rfl, _, rfl, ?_⟩
            refine ite2 (fun h => by simp at h) (fun _ => ?_)
            refine ⟨_, rfl, e, _, rfl, (er.same (sE1.trans sk2)).xo, T, fun t ht => Z.us (nmAt i) hmem t ht, fun Hu su => ⟨false, rfl, iteF ⟨_, rfl, s2.trans su⟩⟩⟩
          · rintro σ G ⟨w8, rfl, sG⟩
            exact ⟨_, _, _, _, _, _, ms3, dd3, rfl, DU.same (s3.trans sG), by omega, sU.trans (s3.trans sG)⟩
    · rintro σ G ⟨v3, v4, v5, v6, v7, v8, ms2, dd2, rfl, D2, hdd2, s2⟩
      refine ⟨_, rfl, d, l, ms2, br, dd2, 5, rfl, D2, by omega, by omega, by omega, fun j ms3 G3 hj1 hj2 D3 kp3 => ?_⟩
      obtain ⟨m, rfl⟩ : ∃ m : Nat, j = (m : Int) := ⟨j.toNat, by omega⟩
      have hm5 : m < 5 := by omega
      have s3 := stepQ s2 kp3
      refine ⟨_, rfl, _, rfl, _, rfl, d, l, ms3, br, dd2 + 1, p, PL, rfl, D3, by omega, s3 _ _ qp, np2, by omega, by omega, fun v ms4 G4 hv D4 kp4 => ⟨m, v, rfl, hm5, fun pc Hc sc hpc => ?_⟩⟩
      have hix : ([V.int 3, V.int 16, V.int 14, V.int 22, V.int 19] : List V)[m]? = some (V.int ((cods.getD m 0 : Nat) : Int)) := by
        rcases (show m = 0 ∨ m = 1 ∨ m = 2 ∨ m = 3 ∨ m = 4 by omega) with rfl | rfl | rfl | rfl | rfl <;> rfl
      have gdc : Good (.list [.int ((cods.getD m 0 : Nat) : Int)]) := by
        rcases (show m = 0 ∨ m = 1 ∨ m = 2 ∨ m = 3 ∨ m = 4 by omega) with rfl | rfl | rfl | rfl | rfl <;> exact ⟨by decide +kernel, by decide +kernel, by decide +kernel⟩
      refine ⟨by show 5 ≤ sizeLine; omega, fun q hq => ⟨_, rfl, q, _, _, _, rfl, rfl, SqL.of upd_same, atI_nat hix, by show 1 ≤ sizeLine; omega, fun q2 hq2 => ?_⟩⟩
      refine ⟨.list [.int ((cods.getD m 0 : Nat) : Int)], .list [.int ((cods.getD m 0 : Nat) : Int)], .lst (SqL.of (upS (upS hpc hq) hq2)) (.cons (.int _) .nil), .lst (SqL.of upd_same) (.cons (.int _) .nil), gdc, gdc, _, rfl, ?_⟩
      rw [eqv_self _ gdc.ok]
      refine iteF ?_
      have T := Z.T "StreamError" (by decide)
      refine fun a ha => ⟨a, _, fun k => ("StreamError" : Str) == nmAt k, rfl, .bare upd_same, T, fun k hk => Z.kit "StreamError" (by decide) (nmAt k) (nm_mem k hk), fun pk Hk sk hpk => ?_⟩
      rw [none_of] at hpk
      refine ⟨by show 0 ≤ sizeLine; omega, fun q3 hq3 => ⟨.list [], .list [], .lst (SqL.of (upS hpk hq3)) .nil, .lst (SqL.of upd_same) .nil, ⟨by decide, by decide, by decide⟩, ⟨by decide, by decide, by decide⟩, ?_⟩⟩
      rw [eqv_nil]
      exact k _
end
end K00
namespace K00
open PySem PySem.Spec PyProof.Rows L2 L2H Sw
abbrev Sg := L2.St
/-- one more object that stands just so -/
theorem add_pin {X : Cx} {pins : List (Addr × Obj)} {σ : Sg} {H : Hp} {s : Shared} {q : Addr × Obj} (I : Inv X pins σ H s) (h : s.heap.get? q.1 = some q.2 ∧ H q.1 = none ∧ q.1 ≠ X.env.locals ∧ q.1 ∉ X.fs ∧ ∀ v, q.2.data ≠ .cell v) : Inv X (q :: pins) σ H s :=
  ⟨I.ok, I.os, I.bare, I.base, I.loc, I.cell, I.free, I.freeC, fun p hp => by
    rcases List.mem_append.mp hp with z | z
    · exact I.pin p (List.mem_append_left _ z)
    · rcases List.mem_cons.mp z with rfl | z
      · exact h
      · exact I.pin p (List.mem_append_right _ z), I.hok, I.len⟩
theorem drop_pins {X : Cx} {pins : List (Addr × Obj)} {σ : Sg} {H : Hp} {s : Shared} (I : Inv X pins σ H s) : Inv X [] σ H s :=
  ⟨I.ok, I.os, I.bare, I.base, I.loc, I.cell, I.free, I.freeC, fun p hp => I.pin p (by
    rcases List.mem_append.mp hp with z | z
    · exact List.mem_append_left _ z
    · cases z), I.hok, I.len⟩
section
variable {X : Cx}
/-- a list comprehension in a suite that holds an error: over a range -/
theorem pe_lcH {elt tg iter : Expr} {ifs : List Expr} {scope : Scope} {own : List (Str × Nat)} {pos : Pos} {wi : TI} {g : TG} {tt : TT} {te : TE} (hot : HotC X) (hN : X.N.Nodup) (hi : PIH X tg iter wi) (ok : BlkOk X.N X.env.scope scope own)
    (hg : ∀ (s : Shared) (H : Hp) (C : Addr) (cl : List (Str × Addr)) (fp : List Addr), PG (X.blk s H scope (compEnvC scope cl C X.env) fp) tg g) (ht : ∀ (s : Shared) (H : Hp) (C : Addr) (cl : List (Str × Addr)) (fp : List Addr), PTs (X.blk s H scope (compEnvC scope cl C X.env) fp) ifs tt)
    (he : ∀ (s : Shared) (H : Hp) (C : Addr) (cl : List (Str × Addr)) (fp : List Addr), PE (X.blk s H scope (compEnvC scope cl C X.env) fp) elt te) (hs : ∀ x, foldedSetIterable iter X.env x = pure x := by intro _; rfl) :
    PE X (.ListComp elt [⟨tg, iter, ifs, 0⟩] scope pos) (tLc wi g tt te (own.map (·.2))) := by
  obtain ⟨q, ⟨hh, v1, e1, c1⟩, hq⟩ := hot
  refine ⟨fun pins s σ H Q I h => ?_⟩
  have frees : ∀ y ∈ scope.names, y.2 = .free → ∃ c, X.env.cells.lookup y.1 = some c := fun y hy e => I.ok.has _ ((ok.free y hy e).elim .inl .inr)
  rw [eval_ListComp]
  refine wpAny_comprehension_free rfl hs (closure_ok frees) ok.kind (fun y hy e => (ok.uniq y hy).trans (by rw [e])) (thn (hi.run pins s σ H _ I h) fun xv sa hx => thn hx fun itv sb h2 => ?_)
  obtain ⟨it, fp, tn, J, Hb, rfl, Ib, T, st, fb, rest⟩ := h2
  -- the list that is to come, at D
  have hD0 : Hb sb.heap.objs.size = none := Ib.hok.fresh (Nat.le_refl _)
  obtain ⟨W, ⟨m0, w0⟩, turn⟩ := rest sb.heap.objs.size hD0
  refine wpAny_newObj_type (newEnv_comp ?_) (show 0 ≤ sizeLine from Nat.zero_le _)
  have Ic : Inv X pins σ (upd Hb sb.heap.objs.size (.lst [])) { sb with heap := sb.heap.push { cls := .type "list", data := .seq ([] : List Value).toArray } } :=
    Ib.laid (t' := sb.toks) (fun _ _ e => Heap.get?_push_of_some _ e) (Nat.le_refl _) ⟨Nat.zero_le _, [], 0, .nil, Heap.get?_push_size _ rfl⟩
  have below : ∀ b ∈ fp, b < sb.heap.objs.size := fun b hb => let ⟨_, e, _⟩ := T.obj _ _ st b hb; Heap.lt_size e
  have fc : ∀ b ∈ fp, FpOk X pins (upd Hb sb.heap.objs.size (.lst [])) b ∧ b < (sb.heap.push { cls := .type "list", data := .seq ([] : List Value).toArray }).objs.size := fun b hb =>
    ⟨⟨by rw [upd_ne (Nat.ne_of_lt (below b hb))]; exact (fb b hb).1, (fb b hb).2⟩, by rw [Heap.size_push]; exact Nat.lt_succ_of_lt (below b hb)⟩
  have stc : tn 0 (sb.heap.push { cls := .type "list", data := .seq ([] : List Value).toArray }) := T.keep _ _ _ st fun _ _ _ e => Heap.get?_push_of_some _ e
  generalize sb.heap.objs.size = D at *
  generalize (sb.heap.push { cls := .type "list", data := .seq ([] : List Value).toArray }) = hc at *
  generalize hHc : upd Hb D (.lst []) = Hc at Ic fc w0
  obtain ⟨sc, esc⟩ : ∃ sc : Shared, sc = { heap := hc, gens := sb.gens, drawn := sb.drawn, toks := sb.toks, os := sb.os } := ⟨_, rfl⟩
  have Ic : Inv X pins σ Hc sc := by rw [esc]; exact Ic
  have fc : ∀ b ∈ fp, FpOk X pins Hc b ∧ b < sc.heap.objs.size := by rw [esc]; exact fc
  have stc : tn 0 sc.heap := by rw [esc]; exact stc
  have Id := block_start Ic ok hN fc
  have pg := hg sc Hc sc.heap.objs.size (cellsFrom (sc.heap.objs.size + 1) scope.names (cloFrom X.env.cells scope.names [])) fp
  have pt := ht sc Hc sc.heap.objs.size (cellsFrom (sc.heap.objs.size + 1) scope.names (cloFrom X.env.cells scope.names [])) fp
  have pe := he sc Hc sc.heap.objs.size (cellsFrom (sc.heap.objs.size + 1) scope.names (cloFrom X.env.cells scope.names [])) fp
  have goal : codeAny (model X.prog X.w) X.A (.compStart (.ListComp elt [⟨tg, iter, ifs, 0⟩] scope pos) 0 (.ref it) (.ref D) (compEnvC scope (cellsFrom (sc.heap.objs.size + 1) scope.names (cloFrom X.env.cells scope.names [])) sc.heap.objs.size X.env))
      (compPost (model X.prog X.w) X.A X.xe none (EP X pins σ Q) (.ref D) sc.heap.objs.size) { sc with heap := pushCells (sc.heap.push { cls := .type "dict", data := .dict #[] }) scope.names } := by
    generalize hce : compEnvC scope (cellsFrom (sc.heap.objs.size + 1) scope.names (cloFrom X.env.cells scope.names [])) sc.heap.objs.size X.env = ce at Id pg pt pe ⊢
    have cL : ce.locals = sc.heap.objs.size := by subst hce; rfl
    obtain ⟨sd, esd⟩ : ∃ sd : Shared, sd = { sc with heap := pushCells (sc.heap.push { cls := .type "dict", data := .dict #[] }) scope.names } := ⟨_, rfl⟩
    have kd : ∀ b o, sc.heap.get? b = some o → sd.heap.get? b = some o := fun b o e => by rw [esd]; exact pushCells_keeps _ _ _ _ (Heap.get?_push_of_some _ e)
    rw [← esd] at Id ⊢
    have std : tn 0 sd.heap := T.keep _ _ _ stc fun b _ o e => kd b o e
    -- the held error in the block
    obtain ⟨q1, q2, q3, q4, q5⟩ := Ic.pin q (List.mem_append_left _ hq)
    have qS : q.1 ∉ frs X.stack := fun hm => (List.mem_cons.mp (Ic.stkSub q.1 hm)).elim q3 q4
    have qF : q.1 ∉ fp := fun hm => (fc q.1 hm).1.2.2.2.2.2 q (List.mem_append_left _ hq) rfl
    have qI : ∀ {σ' : Sg} {H' : Hp} {s' : Shared}, Inv (X.blk sc Hc scope ce fp) [] σ' H' s' → Inv (X.blk sc Hc scope ce fp) [q] σ' H' s' := fun {σ' H' s'} I' =>
      add_pin I' ⟨I'.base.keep q.1 q.2 q1 q2 qS qF, I'.base.free q.1 q.2 q1 q2 qF, by show q.1 ≠ ce.locals; rw [cL]; exact Nat.ne_of_lt (Heap.lt_size q1), qS, q5⟩
    have fB : ∀ {σ' : Sg} {H' : Hp} {s' : Shared}, Inv (X.blk sc Hc scope ce fp) [] σ' H' s' → (∀ b ∈ fp, H' b = none) → ∀ b ∈ fp, FpOk (X.blk sc Hc scope ce fp) [q] H' b := fun {σ' H' s'} I' hn b hb =>
      ⟨hn b hb, (I'.ok.exf b hb).1, I'.ok.exfs b hb, .inl hb, fun x c e => (I'.ok.exf b hb).2 x c e, fun p hp => by
        have e : p = q := by simpa using (show p ∈ ([] : List (Addr × Obj)) ++ [q] from hp)
        rw [e]; exact fun z => qF (z ▸ hb)⟩
    have fT : ∀ {σ' : Sg} {H' : Hp} {s' : Shared}, Inv (X.blk sc Hc scope ce fp) [] σ' H' s' → (∀ b ∈ fp, H' b = none) → ∀ b ∈ fp, FpOk ((X.blk sc Hc scope ce fp).tr ([] ++ [q]) fun _ _ => False) [] H' b := fun {σ' H' s'} I' hn b hb => by
      obtain ⟨a1, a2, a3, a4, a5, a6⟩ := fB I' hn b hb
      exact ⟨a1, a2, a3, a4, a5, fun p hp => a6 p (by rw [List.append_nil] at hp; exact hp)⟩
    have hotB : HotC ((X.blk sc Hc scope ce fp).tr ([] ++ [q]) fun _ _ => False) := ⟨q, ⟨hh, v1, e1, c1⟩, by show q ∈ [] ++ [q]; simp⟩
    have okB := Id.ok
    have loop : codeAny (model X.prog X.w) X.A (.compLoop (.ListComp elt [⟨tg, iter, ifs, 0⟩] scope pos) 0 (.ref it) (.ref D) ce) (compPost (model X.prog X.w) X.A X.xe none (EP X pins σ Q) (.ref D) sc.heap.objs.size) sd := by
      refine compLoop_any (fun n s' => ∃ i H', Inv (X.blk sc Hc scope ce fp) [] (wipe σ (own.map (·.2))) H' s' ∧ tn i s'.heap ∧ (∀ b ∈ fp, H' b = none) ∧ W i n H') ?_ m0 ⟨0, Hc, Id, std, fun b hb => (fc b hb).1.1, w0⟩
      rintro n se ⟨i, He, Ie, ste, ne, we⟩
      have It := (qI Ie).toTry (fun _ _ => False)
      rcases turn i n He we with ⟨stop, qq⟩ | ⟨go, Nx, hNx, step⟩
      · refine thnF (T.done ((X.blk sc Hc scope ce fp).tr ([] ++ [q]) fun _ _ => False) rfl rfl rfl hotB i [] se _ He (fun _ _ => False) It (fT Ie ne) ste stop) fun r sf ⟨hr, If⟩ => ?_
        subst hr
        have Ig := drop_pins (Inv.ofTry (X := X.blk sc Hc scope ce fp) (pins := [q]) If okB)
        have Ih : Inv X pins σ He sf := Ic.call' (ch := fp) Ig.os Ig.base Ig.hok Ig.bare fun b hb => ⟨(fc b hb).1.2.2.2.1, (fc b hb).1.2.1, (fc b hb).1.2.2.2.2.1, (fc b hb).1.2.2.2.2.2⟩
        have nL : He sc.heap.objs.size = none := by
          have z : He ce.locals = none := Ig.free
          rw [cL] at z; exact z
        obtain ⟨m, hm, _⟩ := Ig.loc
        have hm : sf.heap.Ns ce.locals m := hm
        rw [cL] at hm
        refine ⟨m, hm, fun h'' sbut => ?_⟩
        obtain ⟨f0, f1, f2, f3, f4, f5⟩ := Ic.fpOk (H' := He) (Nat.le_refl _) nL
        exact ⟨.ref D, He, Ih.turned (t' := sf.toks) (fun b o hb e => (sbut.2 b hb).trans e) f0 f1 f3 f4 f5, rfl, qq⟩
      · refine thnF (T.item ((X.blk sc Hc scope ce fp).tr ([] ++ [q]) fun _ _ => False) rfl rfl rfl hotB i [] se _ He (fun _ _ => False) It (fT Ie ne) ste go) fun r sf ⟨u, hr, h6⟩ => ?_
        subst hr
        refine thnF h6 fun _ sg ⟨x, Hg, Ig, rg, yg, stg, ng⟩ => ?_
        have Ih := drop_pins (Inv.ofTry (X := X.blk sc Hc scope ce fp) (pins := [q]) Ig okB)
        have Ii := (qI Ih).pinned (fB Ih ng) (T.obj _ _ stg)
        refine thnF (pg.run _ sg _ Hg x u _ Ii rg (step x Hg yg)) fun _ sh ⟨σh, Hh, Ij, hw, qh⟩ => ?_
        refine thnF (pt.run _ sh σh Hh _ Ij qh) fun b si ⟨Hi, Ik, qi⟩ => ?_
        have fin : ∀ {s' : Shared} {H' : Hp}, Inv (X.blk sc Hc scope ce fp) ([q] ++ pinsAt fp sg.heap) σh H' s' → Nx H' → ∃ m, m < n ∧ ∃ i H', Inv (X.blk sc Hc scope ce fp) [] (wipe σ (own.map (·.2))) H' s' ∧ tn i s'.heap ∧ (∀ b ∈ fp, H' b = none) ∧ W i m H' := fun {s' H'} I' nx => by
          obtain ⟨m', hm, w'⟩ := hNx H' nx
          have still : ∀ b ∈ fp, ∀ o, sg.heap.get? b = some o → s'.heap.get? b = some o ∧ H' b = none := fun b hb o e =>
            let z := I'.pin (b, o) (List.mem_append_right _ (List.mem_append_right _ (mem_pinsAt hb e)))
            ⟨z.1, z.2.1⟩
          refine ⟨m', hm, i + 1, H', (drop_pins I').weak (by rw [← hw, wipe_length]) (fun j v e => ?_), T.keep _ _ _ stg fun b hb o e => (still b hb o e).1, fun b hb => ?_, w'⟩
          · rw [← hw] at e
            exact (wipe_some e).1
          · obtain ⟨o, e, _⟩ := T.obj _ _ stg b hb
            exact (still b hb o e).2
        cases b with
        | false => exact fin Ik (by simpa using qi)
        | true =>
          rw [if_pos rfl] at qi ⊢
          refine thnF (pe.run _ si σh Hi _ Ik qi) fun z sj ⟨yv, Hj, Il, rj, acc, hDj, hzj, nx⟩ => ?_
          exact app_ok (X := X.blk sc Hc scope ce fp) Il hDj hzj rj fun sk Im => fin Im nx
    exact codeAny_compStart_list loop (T.self X.A 0 _ _ _ std loop)
  rw [esc] at goal
  exact goal
end
end K00
namespace K00
open PySem PySem.Spec PyProof.Rows L2 L2H Sw
/-! ### a def called while an error is held: its promise may speak of that error -/
structure FnE (P : Program) (w : World) (K : PySem.W.Frag) (mg : Str → Option Value) (base : Heap) (k : Nat) (f : Addr) (fd : FuncData) (ps : List Str) (sp : Addr × Obj → Sp) : Prop where
  len : ∀ q vs H Q E, sp q vs H Q E → vs.length = ps.length
  run : ∀ (A : Around) (out : List Env) (s : Shared) (H : Hp) (args : Args) (us : List Value) (vs : List V) (Q : VK) (E : XK) (q : Addr × Obj), RoomH k A → Hot1 A q → PinOk out H s q → Env0 P w K mg base A out s H → BindsTo s fd args (ps.zip us) → Vals vs us → sp q vs H Q E →
    codeAny (model P w) A (.call (.ref f) args) (CR CX0 out P w H s Q E) s
section
variable {P : Program} {w : World} {K : PySem.W.Frag} {mg : Str → Option Value} {base : Heap} {k : Nat} {f : Addr} {fd : FuncData} {ps : List Str} {sp : Addr × Obj → Sp}
theorem fne_of {x qn : Str} {pa : Arguments} {bo : List Stmt} {sc : Scope} {N : List Str} (F : FunD K x qn pa bo sc [] [] f fd) (S : FnScope N ps sc) (hl : ∀ q vs H Q E, sp q vs H Q E → vs.length = ps.length)
    (hbo : ∀ (cv : Value) (A : Around) (out : List Env) (s : Shared) (H : Hp) (vs : List V) (Q : VK) (E : XK) (q : Addr × Obj), Hot1 A q → RoomH k (A.deeper (envOfC qn sc s.heap.objs.size f cv)) → sp q vs H Q E →
      ∃ t, PSs (cxH CX0 P w K mg base N qn sc f cv A out s H E q) bo t ∧ t { nx := fun _ H' => Q .non H', rt := Q } (L2.start N vs) H) : FnE P w K mg base (k + 1) f fd ps sp := by
  obtain ⟨oc, od, dV, kV, doc, pm, an, cv, ct, osl, rfl, lk, hco, _, _⟩ := F.ex
  refine ⟨hl, fun A out s H args us vs Q E q hr hot hpin he hb rv hs => ?_⟩
  have vl := hl _ _ _ _ _ hs
  have kin : K.In s.heap := he.mod.kin.keeps fun b o z => (he.bs b o z).1
  have nol : s.heap.NoLimit := he.mod.nolimit.keeps fun b o z => (he.bs b o z).1
  refine codeAny_call_function hr.depth (kin _ _ lk) rfl S.co S.gen rfl (PySem.W.codeRec_of kin hco) (hb _ _ _ _ ?_)
  refine wpAny_newFunctionEnv_cells S.kind (fun y hy => ?_) fun env eq s1 z => ?_
  · rcases S.par y.1 (List.of_mem_zip (show (y.1, y.2) ∈ ps.zip us from hy)).1 with z | z
    · exact .inl z
    · exact .inr ⟨z, PySem.W.cellsFrom_some _ _ _ (.inl z)⟩
  subst eq
  refine ⟨nol.keeps z.toInCall.keep, codeAny_func ?_⟩
  obtain ⟨t, ht, hq⟩ := hbo cv A out s H vs Q E q hot (hr.deeper _) hs
  have J : Inv (cxH CX0 P w K mg base N qn sc f cv A out s H E q) [] (L2.start N vs) H s1 := inv_startH S hpin he vl rv z
  refine wpAny_mono (ht.run [] s1 (L2.start N vs) H _ J hq) (fun fl s2 hz => ?_) fun _ _ hz => hz
  have fin : ∀ {τ : L2.St} {H' : Hp} {v : V} {u : Value}, Inv (cxH CX0 P w K mg base N qn sc f cv A out s H E q) [] τ H' s2 → RelV v u → Q v H' → CE out P w H s Q u s2 := by
    intro τ H' v u I r z
    exact ⟨v, H', I.os, I.bare, I.base, I.hok, r, z⟩
  cases fl with
  | ret u => obtain ⟨v, τ, H', I, r, z⟩ := hz; exact fin I r z
  | next => obtain ⟨τ, H', I, z⟩ := hz; exact fin (v := V.non) (u := Value.none) I rfl z
  | brk => obtain ⟨_, _, _, z⟩ := hz; exact z.elim
  | cont => obtain ⟨_, _, _, z⟩ := hz; exact z.elim
end
section
variable {X : Cx} {k : Nat} {f : Addr} {fd : FuncData} {ps : List Str} {sp : Addr × Obj → Sp} {x : Str} {p pos : Pos} {e : Expr} {es : List Expr} {ta : TA} {q : Addr × Obj}
/-- a call of such a def -/
theorem pe_callE (F : FnE X.prog X.w X.K X.mg X.base k f fd ps sp) (hr : RoomH k X.A) (hot : Hot1 X.A q) (hq : q ∈ X.pn) (hg : Gl X x) (hm : X.mg x = some (.ref f)) (hk : PySem.W.keepIn X.K (.ref f) = true) (hb : Binds X.K fd ps [])
    (ha : PA X (e :: es) ta) (hd : (x == ("__debug__" : Str)) = false := by decide) (he : starEach (e :: es) X.env = (false, eval e X.env) :: starEach es X.env := by rfl)
    (hp : (backTo pos (starEach es X.env)).any (·.1) = false := by rfl) : PE X (.Call (.Name x p) (e :: es) [] pos) (fun σ H Q => ta σ H fun vs H1 => sp q vs H1 Q E0) := by
  refine ⟨fun pins s σ H Q I h => wpAny_Call_Name_kw (ld_glob I hg hm ?_ hd)⟩
  refine PySem.W.callWith_K (h₀ := X.base) I.ok.mod.kin hk (thn (ha.run pos pins s σ H _ I h) fun us s1 ⟨vs, H1, J, r, z⟩ => ⟨J.kIn, ?_⟩) he hp
  have hl : (us ++ []).length = ps.length := by rw [List.append_nil, ← r.length]; exact F.len _ _ _ _ _ z
  have hbt : BindsTo s1 fd ⟨us, []⟩ (ps.zip us) := by
    have y := hb s1 us J.kIn hl
    rw [List.append_nil] at y
    exact y
  obtain ⟨p1, p2, p3, p4, p5⟩ := J.pin q (List.mem_append_left _ hq)
  have pin : PinOk X.stack H1 s1 q := ⟨p1, p2, fun hm => (List.mem_cons.mp (J.stkSub q.1 hm)).elim p3 p4, p5⟩
  refine wpAny_call (codeAny_mono (F.run X.A X.stack s1 H1 ⟨us, []⟩ us vs Q E0 q hr hot pin J.env0 hbt r z) fun r' s2 hz => ?_)
  cases r' with
  | error er => exact False.elim hz
  | ok fl =>
    cases fl with
    | ret u => exact J.after hz
    | next => exact False.elim hz
    | brk => exact False.elim hz
    | cont => exact False.elim hz
/-- the held error: its class, its dict -/
def Xp (q : Addr × Obj) (H : Hp) (C : Addr) : Prop := q.2.cls = .ref C ∧ (∃ vs, q.2.data = .fields vs) ∧ (q.2.dict = none ∨ ∃ d fs, q.2.dict = some d ∧ H d = some (exd d fs))
theorem Xp.same {q : Addr × Obj} {H H' : Hp} {C : Addr} (x : Xp q H C) (s : Same H H') : Xp q H' C := ⟨x.1, x.2.1, x.2.2.imp id fun ⟨d, fs, h1, h2⟩ => ⟨d, fs, h1, s _ _ h2⟩⟩
theorem call_xisH (G : XcG X.K) (hq : q ∈ X.pn) : CallR X (.builtin "isinstance") (fun xs H Q => ∃ (C : Addr) (c : V) (u : Value) (b : Bool), xs = [.ref q.1, c] ∧ Xp q H C ∧ XcC X.K C ∧ ClsV c u ∧ PySem.W.kitOne X.K (.ref C) u = some b ∧ Q (.bl b) H) := by
  intro pins s σ H xs us Q I r h
  obtain ⟨C, c, u, b, rfl, ⟨x1, ⟨vs, x2⟩, x3⟩, T, k, e, z⟩ := h
  obtain ⟨u1, u2, rfl, r1, r2⟩ := vals2 r
  cases (show u1 = Value.ref q.1 from r1)
  have e2 := k.eq r2
  subst e2
  have get := (I.pin q (List.mem_append_left _ hq)).1
  obtain ⟨od, J⟩ : ∃ od, PySem.W.InstAt s.heap q.1 q.2 C od := by
    rcases x3 with x3 | ⟨d, fs, x3, x4⟩
    · exact ⟨none, get, x1, by unfold PySem.W.notCls; rw [x2] <;> rfl, by rw [x3]; trivial⟩
    · obtain ⟨m, hn, _⟩ := exd_at I.hok x4
      obtain ⟨od, hd⟩ := ns1_there hn
      exact ⟨some od, get, x1, by unfold PySem.W.notCls; rw [x2] <;> rfl, by rw [x3]; exact hd⟩
  have hcl : (PySem.W.clsIn X.K C).isSome = true := by
    obtain ⟨cd, hc, _⟩ := PySem.W.any_some T.hd
    rw [hc]; rfl
  exact PySem.W.kia_one (PySem.W.kitx_exc hcl T.ga T.gg T.ex T.cl G.g G.t T.mo) I.kIn J e (fun z => nomatch z) fun tk => ⟨.bl b, H, I.tok tk, rfl, z⟩
/-- what gives a new own error back is raised -/
theorem pmk_val {t : TE} {K0 : PySem.W.Frag} {H0 : Hp} (hx : X.ex = []) (eK : X.K = K0) (eH : X.H_0 = H0) (he : PE X e t) : L2N.PMk X e (fun σ H Q => t σ H fun x H1 => ∃ a C, x = .ref a ∧ XcC K0 C ∧ Fr0 H0 a ∧
    ((∃ d fs, H1 a = some (exo a C (some d)) ∧ H1 d = some (exd d fs) ∧ Q (.ref C) (some d) (delH H1 a)) ∨ (H1 a = some (ExO (.ref C) a) ∧ Q (.ref C) none (delH H1 a)))) := by
  subst eK eH
  intro pins s σ H Q I h
  refine wpAny_mono (he.run pins s σ H _ I h) (fun u s1 hu => ?_) fun _ _ x => x
  obtain ⟨v, H1, I1, r1, a, C, rfl, T, f0, z⟩ := hu
  cases r1
  rcases z with ⟨d, fs, h1, h2, z⟩ | ⟨h1, z⟩
  · obtain ⟨t0, ho⟩ := exo_at I1.hok h1
    obtain ⟨G, gs, ga, J⟩ := I1.untrack h1 f0 hx
    exact ⟨a, _, _, { s1 with heap := G }, delH H1 a, .ref C, some d, rfl, J, gs, ga, ho, ⟨rfl, rfl, fun vs e => by cases e; rfl⟩, rfl, rfl, delH_same, rfl, I1.bare, raises_own T.ex T.ty, z⟩
  · obtain ⟨⟨oe, vs, ho, hz, hd, k1, k2, _⟩, _⟩ := (show ObjOk X.prog X.w H1 s1.heap a (ExO (.ref C) a) from I1.hok a _ h1)
    obtain ⟨G, gs, ga, J⟩ := I1.untrack h1 f0 hx
    exact ⟨a, oe, vs, { s1 with heap := G }, delH H1 a, .ref C, none, rfl, J, gs, ga, ho, ⟨hz.1, hz.2, fun vs' e => by rw [hd] at e; cases e; exact k2⟩, hd, k1, delH_same, rfl, I1.bare, raises_own T.ex T.ty, z⟩
end
end K00
namespace K00
open PySem PySem.Spec PyProof.Rows L2 L2H Sw
section
variable {P : Program} {w : World} {K : PySem.W.Frag} {mg : Str → Option Value} {base : Heap}
def spKindsE (K : PySem.W.Frag) (q : Addr × Obj) : Sp := fun vs H Q _ => ∃ (C : Addr) (b : Nat → Bool), vs = [.ref q.1] ∧ Xp q H C ∧ XcC K C ∧ (∀ k, k < 25 → PySem.W.kitOne K (.ref C) (.ref (He.ga K (nmAt k))) = some (b k)) ∧ ∀ p H', Same H H' → H' p = some (.lst (((List.range 25).filter b).map fun k : Nat => V.int k)) → Q (.ref p) H'
theorem ok_kindsE {f : Addr} {fd : FuncData} (F : FnP K "_law_kinds" 38 f fd) (Z : Facts K mg) (gI : mg "isinstance" = none) (gRa : mg "range" = none) : FnE P w K mg base 1 f fd ["_law_e"] (spKindsE K) := by
  refine fne_of F sc_kinds (fun q vs H Q E h => ?_) (fun cdv A outer s H vs Q E q hot hr h => ?_)
  · obtain ⟨C, b, rfl, _⟩ := h; rfl
  · obtain ⟨C, b, rfl, xo, T, hk, kk⟩ := h
    have lz := line_big
    have hotc : HotC (cxH CX0 P w K mg base ["_law_e", "_law_lot", "_law_k"] "_law_kinds" (defScope (top 38)) f cdv A outer s H E q) := ⟨q, ⟨hot.1, hot.2⟩, show q ∈ [q] from List.mem_singleton.mpr rfl⟩
    refine ⟨_, (pss_cons (ps_set (i := 1) sc_kinds.nd rfl (Or.inr rfl) (pe_lst (pa_cons (pe_callB (call_xisH Z.G (show q ∈ [q] from List.mem_singleton.mpr rfl)) (by rfl) gI boot_isinstance (pa_cons (pv 0) (pa_cons (pe_glob (v := .ref (He.ga K "BadFormat")) (by rfl) (Z.mgC "BadFormat" (by decide)) rfl) pa_nil))) (pa_cons (pe_callB (call_xisH Z.G (show q ∈ [q] from List.mem_singleton.mpr rfl)) (by rfl) gI boot_isinstance (pa_cons (pv 0) (pa_cons (pe_glob (v := .ref (He.ga K "BadText")) (by rfl) (Z.mgC "BadText" (by decide)) rfl) pa_nil))) (pa_cons (pe_callB (call_xisH Z.G (show q ∈ [q] from List.mem_singleton.mpr rfl)) (by rfl) gI boot_isinstance (pa_cons (pv 0) (pa_cons (pe_glob (v := .ref (He.ga K "BadTranslator")) (by rfl) (Z.mgC "BadTranslator" (by decide)) rfl) pa_nil))) pa_nil)))))
      (pss_cons (ps_set (i := 1) sc_kinds.nd rfl (Or.inr rfl) (pe_op op_cat (pv 1) (pe_lst (pa_cons (pe_callB (call_xisH Z.G (show q ∈ [q] from List.mem_singleton.mpr rfl)) (by rfl) gI boot_isinstance (pa_cons (pv 0) (pa_cons (pe_glob (v := .ref (He.ga K "NotSure")) (by rfl) (Z.mgC "NotSure" (by decide)) rfl) pa_nil))) (pa_cons (pe_callB (call_xisH Z.G (show q ∈ [q] from List.mem_singleton.mpr rfl)) (by rfl) gI boot_isinstance (pa_cons (pv 0) (pa_cons (pe_glob (v := .ref (He.ga K "BadReader")) (by rfl) (Z.mgC "BadReader" (by decide)) rfl) pa_nil))) (pa_cons (pe_callB (call_xisH Z.G (show q ∈ [q] from List.mem_singleton.mpr rfl)) (by rfl) gI boot_isinstance (pa_cons (pv 0) (pa_cons (pe_glob (v := .ref (He.ga K "Drifts")) (by rfl) (Z.mgC "Drifts" (by decide)) rfl) pa_nil))) pa_nil))))))
      (pss_cons (ps_set (i := 1) sc_kinds.nd rfl (Or.inr rfl) (pe_op op_cat (pv 1) (pe_lst (pa_cons (pe_callB (call_xisH Z.G (show q ∈ [q] from List.mem_singleton.mpr rfl)) (by rfl) gI boot_isinstance (pa_cons (pv 0) (pa_cons (pe_glob (v := .ref (He.ga K "BadPiece")) (by rfl) (Z.mgC "BadPiece" (by decide)) rfl) pa_nil))) (pa_cons (pe_callB (call_xisH Z.G (show q ∈ [q] from List.mem_singleton.mpr rfl)) (by rfl) gI boot_isinstance (pa_cons (pv 0) (pa_cons (pe_glob (v := .ref (He.ga K "NoAnswer")) (by rfl) (Z.mgC "NoAnswer" (by decide)) rfl) pa_nil))) (pa_cons (pe_callB (call_xisH Z.G (show q ∈ [q] from List.mem_singleton.mpr rfl)) (by rfl) gI boot_isinstance (pa_cons (pv 0) (pa_cons (pe_glob (v := .ref (He.ga K "NoRest")) (by rfl) (Z.mgC "NoRest" (by decide)) rfl) pa_nil))) pa_nil))))))
      (pss_cons (ps_set (i := 1) sc_kinds.nd rfl (Or.inr rfl) (pe_op op_cat (pv 1) (pe_lst (pa_cons (pe_callB (call_xisH Z.G (show q ∈ [q] from List.mem_singleton.mpr rfl)) (by rfl) gI boot_isinstance (pa_cons (pv 0) (pa_cons (pe_glob (v := .ref (He.ga K "BadMarking")) (by rfl) (Z.mgC "BadMarking" (by decide)) rfl) pa_nil))) (pa_cons (pe_callB (call_xisH Z.G (show q ∈ [q] from List.mem_singleton.mpr rfl)) (by rfl) gI boot_isinstance (pa_cons (pv 0) (pa_cons (pe_glob (v := .ref (He.ga K "BadPlace")) (by rfl) (Z.mgC "BadPlace" (by decide)) rfl) pa_nil))) (pa_cons (pe_callB (call_xisH Z.G (show q ∈ [q] from List.mem_singleton.mpr rfl)) (by rfl) gI boot_isinstance (pa_cons (pv 0) (pa_cons (pe_glob (v := .ref (He.ga K "BadWord")) (by rfl) (Z.mgC "BadWord" (by decide)) rfl) pa_nil))) pa_nil))))))
      (pss_cons (ps_set (i := 1) sc_kinds.nd rfl (Or.inr rfl) (pe_op op_cat (pv 1) (pe_lst (pa_cons (pe_callB (call_xisH Z.G (show q ∈ [q] from List.mem_singleton.mpr rfl)) (by rfl) gI boot_isinstance (pa_cons (pv 0) (pa_cons (pe_glob (v := .ref (He.ga K "BadLine")) (by rfl) (Z.mgC "BadLine" (by decide)) rfl) pa_nil))) (pa_cons (pe_callB (call_xisH Z.G (show q ∈ [q] from List.mem_singleton.mpr rfl)) (by rfl) gI boot_isinstance (pa_cons (pv 0) (pa_cons (pe_glob (v := .ref (He.ga K "OtherTexts")) (by rfl) (Z.mgC "OtherTexts" (by decide)) rfl) pa_nil))) (pa_cons (pe_callB (call_xisH Z.G (show q ∈ [q] from List.mem_singleton.mpr rfl)) (by rfl) gI boot_isinstance (pa_cons (pv 0) (pa_cons (pe_glob (v := .ref (He.ga K "BadName")) (by rfl) (Z.mgC "BadName" (by decide)) rfl) pa_nil))) pa_nil))))))
      (pss_cons (ps_set (i := 1) sc_kinds.nd rfl (Or.inr rfl) (pe_op op_cat (pv 1) (pe_lst (pa_cons (pe_callB (call_xisH Z.G (show q ∈ [q] from List.mem_singleton.mpr rfl)) (by rfl) gI boot_isinstance (pa_cons (pv 0) (pa_cons (pe_glob (v := .ref (He.ga K "NoName")) (by rfl) (Z.mgC "NoName" (by decide)) rfl) pa_nil))) (pa_cons (pe_callB (call_xisH Z.G (show q ∈ [q] from List.mem_singleton.mpr rfl)) (by rfl) gI boot_isinstance (pa_cons (pv 0) (pa_cons (pe_glob (v := .ref (He.ga K "NotAlike")) (by rfl) (Z.mgC "NotAlike" (by decide)) rfl) pa_nil))) (pa_cons (pe_callB (call_xisH Z.G (show q ∈ [q] from List.mem_singleton.mpr rfl)) (by rfl) gI boot_isinstance (pa_cons (pv 0) (pa_cons (pe_glob (v := .ref (He.ga K "OtherTable")) (by rfl) (Z.mgC "OtherTable" (by decide)) rfl) pa_nil))) pa_nil))))))
      (pss_cons (ps_set (i := 1) sc_kinds.nd rfl (Or.inr rfl) (pe_op op_cat (pv 1) (pe_lst (pa_cons (pe_callB (call_xisH Z.G (show q ∈ [q] from List.mem_singleton.mpr rfl)) (by rfl) gI boot_isinstance (pa_cons (pv 0) (pa_cons (pe_glob (v := .ref (He.ga K "OtherNumber")) (by rfl) (Z.mgC "OtherNumber" (by decide)) rfl) pa_nil))) (pa_cons (pe_callB (call_xisH Z.G (show q ∈ [q] from List.mem_singleton.mpr rfl)) (by rfl) gI boot_isinstance (pa_cons (pv 0) (pa_cons (pe_glob (v := .ref (He.ga K "NothingToUndo")) (by rfl) (Z.mgC "NothingToUndo" (by decide)) rfl) pa_nil))) (pa_cons (pe_callB (call_xisH Z.G (show q ∈ [q] from List.mem_singleton.mpr rfl)) (by rfl) gI boot_isinstance (pa_cons (pv 0) (pa_cons (pe_glob (v := .ref (He.ga K "NothingToRedo")) (by rfl) (Z.mgC "NothingToRedo" (by decide)) rfl) pa_nil))) pa_nil))))))
      (pss_cons (ps_set (i := 1) sc_kinds.nd rfl (Or.inr rfl) (pe_op op_cat (pv 1) (pe_lst (pa_cons (pe_callB (call_xisH Z.G (show q ∈ [q] from List.mem_singleton.mpr rfl)) (by rfl) gI boot_isinstance (pa_cons (pv 0) (pa_cons (pe_glob (v := .ref (He.ga K "InvalidCommand")) (by rfl) (Z.mgC "InvalidCommand" (by decide)) rfl) pa_nil))) (pa_cons (pe_callB (call_xisH Z.G (show q ∈ [q] from List.mem_singleton.mpr rfl)) (by rfl) gI boot_isinstance (pa_cons (pv 0) (pa_cons (pe_glob (v := .ref (He.ga K "Silent")) (by rfl) (Z.mgC "Silent" (by decide)) rfl) pa_nil))) (pa_cons (pe_callB (call_xisH Z.G (show q ∈ [q] from List.mem_singleton.mpr rfl)) (by rfl) gI boot_isinstance (pa_cons (pv 0) (pa_cons (pe_glob (v := .ref (He.ga K "Twins")) (by rfl) (Z.mgC "Twins" (by decide)) rfl) pa_nil))) pa_nil))))))
      (pss_cons (ps_set (i := 1) sc_kinds.nd rfl (Or.inr rfl) (pe_op op_cat (pv 1) (pe_lst (pa_cons (pe_callB (call_xisH Z.G (show q ∈ [q] from List.mem_singleton.mpr rfl)) (by rfl) gI boot_isinstance (pa_cons (pv 0) (pa_cons (pe_glob (v := .ref (He.ga K "Stops")) (by rfl) (Z.mgC "Stops" (by decide)) rfl) pa_nil))) pa_nil))))
      (pss_one (ps_ret (pe_lcH (own := [("_law_k", 2)]) (g := gName 2) hotc sc_kinds.nd (pi_range1H (by rfl) gRa (pa_cons pe_int pa_nil)) (blkOk_by (N := ["_law_e", "_law_lot", "_law_k"]) (sc := defScope (top 38)) (by decide +kernel)) (fun _ _ _ _ _ => pg_name (i := 2) sc_kinds.nd rfl (Or.inl rfl))
        (fun _ _ _ _ _ => pts_one (pt_val (pe_ix (show IxR _ (rIxL K) from ix_list) (pv 1) (pv 2) (fun _ _ => rfl)))) (fun _ _ _ _ _ => pv 2))))))))))))), ?_⟩
    refine ⟨_, rfl, C, .ref (He.ga K "BadFormat"), .ref (He.ga K "BadFormat"), b 0, rfl, xo, T, .own _, hk 0 (by decide), _, rfl, C, .ref (He.ga K "BadText"), .ref (He.ga K "BadText"), b 1, rfl, xo, T, .own _, hk 1 (by decide), _, rfl, C, .ref (He.ga K "BadTranslator"), .ref (He.ga K "BadTranslator"), b 2, rfl, xo, T, .own _, hk 2 (by decide), by show 3 ≤ sizeLine; omega, fun p0 hp0 => ?_⟩
    have s0 : Same H (upd H p0 (.lst [V.bl (b 0), V.bl (b 1), V.bl (b 2)])) := sameU hp0
    have l0 : upd H p0 (.lst [V.bl (b 0), V.bl (b 1), V.bl (b 2)]) p0 = some (.lst [V.bl (b 0), V.bl (b 1), V.bl (b 2)]) := upd_same
    generalize upd H p0 (.lst [V.bl (b 0), V.bl (b 1), V.bl (b 2)]) = G0 at s0 l0 ⊢
    refine ⟨_, rfl, _, rfl, C, .ref (He.ga K "NotSure"), .ref (He.ga K "NotSure"), b 3, rfl, (xo.same s0), T, .own _, hk 3 (by decide), _, rfl, C, .ref (He.ga K "BadReader"), .ref (He.ga K "BadReader"), b 4, rfl, (xo.same s0), T, .own _, hk 4 (by decide), _, rfl, C, .ref (He.ga K "Drifts"), .ref (He.ga K "Drifts"), b 5, rfl, (xo.same s0), T, .own _, hk 5 (by decide), by show 3 ≤ sizeLine; omega, fun q1 hq1 => ⟨p0, q1, _, _, rfl, rfl, upS l0 hq1, upd_same, by show 6 ≤ sizeLine; omega, fun p1 hp1 => ?_⟩⟩
    have s1 : Same H (upd (upd G0 q1 (.lst [V.bl (b 3), V.bl (b 4), V.bl (b 5)])) p1 (.lst ([V.bl (b 0), V.bl (b 1), V.bl (b 2)] ++ [V.bl (b 3), V.bl (b 4), V.bl (b 5)]))) := (s0.trans (sameU hq1)).trans (sameU hp1)
    have l1 : upd (upd G0 q1 (.lst [V.bl (b 3), V.bl (b 4), V.bl (b 5)])) p1 (.lst ([V.bl (b 0), V.bl (b 1), V.bl (b 2)] ++ [V.bl (b 3), V.bl (b 4), V.bl (b 5)])) p1 = some (.lst ([V.bl (b 0), V.bl (b 1), V.bl (b 2)] ++ [V.bl (b 3), V.bl (b 4), V.bl (b 5)])) := upd_same
    generalize upd (upd G0 q1 (.lst [V.bl (b 3), V.bl (b 4), V.bl (b 5)])) p1 (.lst ([V.bl (b 0), V.bl (b 1), V.bl (b 2)] ++ [V.bl (b 3), V.bl (b 4), V.bl (b 5)])) = G1 at s1 l1 ⊢
    refine ⟨_, rfl, _, rfl, C, .ref (He.ga K "BadPiece"), .ref (He.ga K "BadPiece"), b 6, rfl, (xo.same s1), T, .own _, hk 6 (by decide), _, rfl, C, .ref (He.ga K "NoAnswer"), .ref (He.ga K "NoAnswer"), b 7, rfl, (xo.same s1), T, .own _, hk 7 (by decide), _, rfl, C, .ref (He.ga K "NoRest"), .ref (He.ga K "NoRest"), b 8, rfl, (xo.same s1), T, .own _, hk 8 (by decide), by show 3 ≤ sizeLine; omega, fun q2 hq2 => ⟨p1, q2, _, _, rfl, rfl, upS l1 hq2, upd_same, by show 9 ≤ sizeLine; omega, fun p2 hp2 => ?_⟩⟩
    have s2 : Same H (upd (upd G1 q2 (.lst [V.bl (b 6), V.bl (b 7), V.bl (b 8)])) p2 (.lst (([V.bl (b 0), V.bl (b 1), V.bl (b 2)] ++ [V.bl (b 3), V.bl (b 4), V.bl (b 5)]) ++ [V.bl (b 6), V.bl (b 7), V.bl (b 8)]))) := (s1.trans (sameU hq2)).trans (sameU hp2)
    have l2 : upd (upd G1 q2 (.lst [V.bl (b 6), V.bl (b 7), V.bl (b 8)])) p2 (.lst (([V.bl (b 0), V.bl (b 1), V.bl (b 2)] ++ [V.bl (b 3), V.bl (b 4), V.bl (b 5)]) ++ [V.bl (b 6), V.bl (b 7), V.bl (b 8)])) p2 = some (.lst (([V.bl (b 0), V.bl (b 1), V.bl (b 2)] ++ [V.bl (b 3), V.bl (b 4), V.bl (b 5)]) ++ [V.bl (b 6), V.bl (b 7), V.bl (b 8)])) := upd_same
    generalize upd (upd G1 q2 (.lst [V.bl (b 6), V.bl (b 7), V.bl (b 8)])) p2 (.lst (([V.bl (b 0), V.bl (b 1), V.bl (b 2)] ++ [V.bl (b 3), V.bl (b 4), V.bl (b 5)]) ++ [V.bl (b 6), V.bl (b 7), V.bl (b 8)])) = G2 at s2 l2 ⊢
    refine ⟨_, rfl, _, rfl, C, .ref (He.ga K "BadMarking"), .ref (He.ga K "BadMarking"), b 9, rfl, (xo.same s2), T, .own _, hk 9 (by decide), _, rfl, C, .ref (He.ga K "BadPlace"), .ref (He.ga K "BadPlace"), b 10, rfl, (xo.same s2), T, .own _, hk 10 (by decide), _, rfl, C, .ref (He.ga K "BadWord"), .ref (He.ga K "BadWord"), b 11, rfl, (xo.same s2), T, .own _, hk 11 (by decide), by show 3 ≤ sizeLine; omega, fun q3 hq3 => ⟨p2, q3, _, _, rfl, rfl, upS l2 hq3, upd_same, by show 12 ≤ sizeLine; omega, fun p3 hp3 => ?_⟩⟩
    have s3 : Same H (upd (upd G2 q3 (.lst [V.bl (b 9), V.bl (b 10), V.bl (b 11)])) p3 (.lst ((([V.bl (b 0), V.bl (b 1), V.bl (b 2)] ++ [V.bl (b 3), V.bl (b 4), V.bl (b 5)]) ++ [V.bl (b 6), V.bl (b 7), V.bl (b 8)]) ++ [V.bl (b 9), V.bl (b 10), V.bl (b 11)]))) := (s2.trans (sameU hq3)).trans (sameU hp3)
    have l3 : upd (upd G2 q3 (.lst [V.bl (b 9), V.bl (b 10), V.bl (b 11)])) p3 (.lst ((([V.bl (b 0), V.bl (b 1), V.bl (b 2)] ++ [V.bl (b 3), V.bl (b 4), V.bl (b 5)]) ++ [V.bl (b 6), V.bl (b 7), V.bl (b 8)]) ++ [V.bl (b 9), V.bl (b 10), V.bl (b 11)])) p3 = some (.lst ((([V.bl (b 0), V.bl (b 1), V.bl (b 2)] ++ [V.bl (b 3), V.bl (b 4), V.bl (b 5)]) ++ [V.bl (b 6), V.bl (b 7), V.bl (b 8)]) ++ [V.bl (b 9), V.bl (b 10), V.bl (b 11)])) := upd_same
    generalize upd (upd G2 q3 (.lst [V.bl (b 9), V.bl (b 10), V.bl (b 11)])) p3 (.lst ((([V.bl (b 0), V.bl (b 1), V.bl (b 2)] ++ [V.bl (b 3), V.bl (b 4), V.bl (b 5)]) ++ [V.bl (b 6), V.bl (b 7), V.bl (b 8)]) ++ [V.bl (b 9), V.bl (b 10), V.bl (b 11)])) = G3 at s3 l3 ⊢
    refine ⟨_, rfl, _, rfl, C, .ref (He.ga K "BadLine"), .ref (He.ga K "BadLine"), b 12, rfl, (xo.same s3), T, .own _, hk 12 (by decide), _, rfl, C, .ref (He.ga K "OtherTexts"), .ref (He.ga K "OtherTexts"), b 13, rfl, (xo.same s3), T, .own _, hk 13 (by decide), _, rfl, C, .ref (He.ga K "BadName"), .ref (He.ga K "BadName"), b 14, rfl, (xo.same s3), T, .own _, hk 14 (by decide), by show 3 ≤ sizeLine; omega, fun q4 hq4 => ⟨p3, q4, _, _, rfl, rfl, upS l3 hq4, upd_same, by show 15 ≤ sizeLine; omega, fun p4 hp4 => ?_⟩⟩
    have s4 : Same H (upd (upd G3 q4 (.lst [V.bl (b 12), V.bl (b 13), V.bl (b 14)])) p4 (.lst (((([V.bl (b 0), V.bl (b 1), V.bl (b 2)] ++ [V.bl (b 3), V.bl (b 4), V.bl (b 5)]) ++ [V.bl (b 6), V.bl (b 7), V.bl (b 8)]) ++ [V.bl (b 9), V.bl (b 10), V.bl (b 11)]) ++ [V.bl (b 12), V.bl (b 13), V.bl (b 14)]))) := (s3.trans (sameU hq4)).trans (sameU hp4)
    have l4 : upd (upd G3 q4 (.lst [V.bl (b 12), V.bl (b 13), V.bl (b 14)])) p4 (.lst (((([V.bl (b 0), V.bl (b 1), V.bl (b 2)] ++ [V.bl (b 3), V.bl (b 4), V.bl (b 5)]) ++ [V.bl (b 6), V.bl (b 7), V.bl (b 8)]) ++ [V.bl (b 9), V.bl (b 10), V.bl (b 11)]) ++ [V.bl (b 12), V.bl (b 13), V.bl (b 14)])) p4 = some (.lst (((([V.bl (b 0), V.bl (b 1), V.bl (b 2)] ++ [V.bl (b 3), V.bl (b 4), V.bl (b 5)]) ++ [V.bl (b 6), V.bl (b 7), V.bl (b 8)]) ++ [V.bl (b 9), V.bl (b 10), V.bl (b 11)]) ++ [V.bl (b 12), V.bl (b 13), V.bl (b 14)])) := upd_same
    generalize upd (upd G3 q4 (.lst [V.bl (b 12), V.bl (b 13), V.bl (b 14)])) p4 (.lst (((([V.bl (b 0), V.bl (b 1), V.bl (b 2)] ++ [V.bl (b 3), V.bl (b 4), V.bl (b 5)]) ++ [V.bl (b 6), V.bl (b 7), V.bl (b 8)]) ++ [V.bl (b 9), V.bl (b 10), V.bl (b 11)]) ++ [V.bl (b 12), V.bl (b 13), V.bl (b 14)])) = G4 at s4 l4 ⊢
    refine ⟨_, rfl, _, rfl, C, .ref (He.ga K "NoName"), .ref (He.ga K "NoName"), b 15, rfl, (xo.same s4), T, .own _, hk 15 (by decide), _, rfl, C, .ref (He.ga K "NotAlike"), .ref (He.ga K "NotAlike"), b 16, rfl, (xo.same s4), T, .own _, hk 16 (by decide), _, rfl, C, .ref (He.ga K "OtherTable"), .ref (He.ga K "OtherTable"), b 17, rfl, (xo.same s4), T, .own _, hk 17 (by decide), by show 3 ≤ sizeLine; omega, fun q5 hq5 => ⟨p4, q5, _, _, rfl, rfl, upS l4 hq5, upd_same, by show 18 ≤ sizeLine; omega, fun p5 hp5 => ?_⟩⟩
    have s5 : Same H (upd (upd G4 q5 (.lst [V.bl (b 15), V.bl (b 16), V.bl (b 17)])) p5 (.lst ((((([V.bl (b 0), V.bl (b 1), V.bl (b 2)] ++ [V.bl (b 3), V.bl (b 4), V.bl (b 5)]) ++ [V.bl (b 6), V.bl (b 7), V.bl (b 8)]) ++ [V.bl (b 9), V.bl (b 10), V.bl (b 11)]) ++ [V.bl (b 12), V.bl (b 13), V.bl (b 14)]) ++ [V.bl (b 15), V.bl (b 16), V.bl (b 17)]))) := (s4.trans (sameU hq5)).trans (sameU hp5)
    have l5 : upd (upd G4 q5 (.lst [V.bl (b 15), V.bl (b 16), V.bl (b 17)])) p5 (.lst ((((([V.bl (b 0), V.bl (b 1), V.bl (b 2)] ++ [V.bl (b 3), V.bl (b 4), V.bl (b 5)]) ++ [V.bl (b 6), V.bl (b 7), V.bl (b 8)]) ++ [V.bl (b 9), V.bl (b 10), V.bl (b 11)]) ++ [V.bl (b 12), V.bl (b 13), V.bl (b 14)]) ++ [V.bl (b 15), V.bl (b 16), V.bl (b 17)])) p5 = some (.lst ((((([V.bl (b 0), V.bl (b 1), V.bl (b 2)] ++ [V.bl (b 3), V.bl (b 4), V.bl (b 5)]) ++ [V.bl (b 6), V.bl (b 7), V.bl (b 8)]) ++ [V.bl (b 9), V.bl (b 10), V.bl (b 11)]) ++ [V.bl (b 12), V.bl (b 13), V.bl (b 14)]) ++ [V.bl (b 15), V.bl (b 16), V.bl (b 17)])) := upd_same
    generalize upd (upd G4 q5 (.lst [V.bl (b 15), V.bl (b 16), V.bl (b 17)])) p5 (.lst ((((([V.bl (b 0), V.bl (b 1), V.bl (b 2)] ++ [V.bl (b 3), V.bl (b 4), V.bl (b 5)]) ++ [V.bl (b 6), V.bl (b 7), V.bl (b 8)]) ++ [V.bl (b 9), V.bl (b 10), V.bl (b 11)]) ++ [V.bl (b 12), V.bl (b 13), V.bl (b 14)]) ++ [V.bl (b 15), V.bl (b 16), V.bl (b 17)])) = G5 at s5 l5 ⊢
    refine ⟨_, rfl, _, rfl, C, .ref (He.ga K "OtherNumber"), .ref (He.ga K "OtherNumber"), b 18, rfl, (xo.same s5), T, .own _, hk 18 (by decide), _, rfl, C, .ref (He.ga K "NothingToUndo"), .ref (He.ga K "NothingToUndo"), b 19, rfl, (xo.same s5), T, .own _, hk 19 (by decide), _, rfl, C, .ref (He.ga K "NothingToRedo"), .ref (He.ga K "NothingToRedo"), b 20, rfl, (xo.same s5), T, .own _, hk 20 (by decide), by show 3 ≤ sizeLine; omega, fun q6 hq6 => ⟨p5, q6, _, _, rfl, rfl, upS l5 hq6, upd_same, by show 21 ≤ sizeLine; omega, fun p6 hp6 => ?_⟩⟩
    have s6 : Same H (upd (upd G5 q6 (.lst [V.bl (b 18), V.bl (b 19), V.bl (b 20)])) p6 (.lst (((((([V.bl (b 0), V.bl (b 1), V.bl (b 2)] ++ [V.bl (b 3), V.bl (b 4), V.bl (b 5)]) ++ [V.bl (b 6), V.bl (b 7), V.bl (b 8)]) ++ [V.bl (b 9), V.bl (b 10), V.bl (b 11)]) ++ [V.bl (b 12), V.bl (b 13), V.bl (b 14)]) ++ [V.bl (b 15), V.bl (b 16), V.bl (b 17)]) ++ [V.bl (b 18), V.bl (b 19), V.bl (b 20)]))) := (s5.trans (sameU hq6)).trans (sameU hp6)
    have l6 : upd (upd G5 q6 (.lst [V.bl (b 18), V.bl (b 19), V.bl (b 20)])) p6 (.lst (((((([V.bl (b 0), V.bl (b 1), V.bl (b 2)] ++ [V.bl (b 3), V.bl (b 4), V.bl (b 5)]) ++ [V.bl (b 6), V.bl (b 7), V.bl (b 8)]) ++ [V.bl (b 9), V.bl (b 10), V.bl (b 11)]) ++ [V.bl (b 12), V.bl (b 13), V.bl (b 14)]) ++ [V.bl (b 15), V.bl (b 16), V.bl (b 17)]) ++ [V.bl (b 18), V.bl (b 19), V.bl (b 20)])) p6 = some (.lst (((((([V.bl (b 0), V.bl (b 1), V.bl (b 2)] ++ [V.bl (b 3), V.bl (b 4), V.bl (b 5)]) ++ [V.bl (b 6), V.bl (b 7), V.bl (b 8)]) ++ [V.bl (b 9), V.bl (b 10), V.bl (b 11)]) ++ [V.bl (b 12), V.bl (b 13), V.bl (b 14)]) ++ [V.bl (b 15), V.bl (b 16), V.bl (b 17)]) ++ [V.bl (b 18), V.bl (b 19), V.bl (b 20)])) := upd_same
    generalize upd (upd G5 q6 (.lst [V.bl (b 18), V.bl (b 19), V.bl (b 20)])) p6 (.lst (((((([V.bl (b 0), V.bl (b 1), V.bl (b 2)] ++ [V.bl (b 3), V.bl (b 4), V.bl (b 5)]) ++ [V.bl (b 6), V.bl (b 7), V.bl (b 8)]) ++ [V.bl (b 9), V.bl (b 10), V.bl (b 11)]) ++ [V.bl (b 12), V.bl (b 13), V.bl (b 14)]) ++ [V.bl (b 15), V.bl (b 16), V.bl (b 17)]) ++ [V.bl (b 18), V.bl (b 19), V.bl (b 20)])) = G6 at s6 l6 ⊢
    refine ⟨_, rfl, _, rfl, C, .ref (He.ga K "InvalidCommand"), .ref (He.ga K "InvalidCommand"), b 21, rfl, (xo.same s6), T, .own _, hk 21 (by decide), _, rfl, C, .ref (He.ga K "Silent"), .ref (He.ga K "Silent"), b 22, rfl, (xo.same s6), T, .own _, hk 22 (by decide), _, rfl, C, .ref (He.ga K "Twins"), .ref (He.ga K "Twins"), b 23, rfl, (xo.same s6), T, .own _, hk 23 (by decide), by show 3 ≤ sizeLine; omega, fun q7 hq7 => ⟨p6, q7, _, _, rfl, rfl, upS l6 hq7, upd_same, by show 24 ≤ sizeLine; omega, fun p7 hp7 => ?_⟩⟩
    have s7 : Same H (upd (upd G6 q7 (.lst [V.bl (b 21), V.bl (b 22), V.bl (b 23)])) p7 (.lst ((((((([V.bl (b 0), V.bl (b 1), V.bl (b 2)] ++ [V.bl (b 3), V.bl (b 4), V.bl (b 5)]) ++ [V.bl (b 6), V.bl (b 7), V.bl (b 8)]) ++ [V.bl (b 9), V.bl (b 10), V.bl (b 11)]) ++ [V.bl (b 12), V.bl (b 13), V.bl (b 14)]) ++ [V.bl (b 15), V.bl (b 16), V.bl (b 17)]) ++ [V.bl (b 18), V.bl (b 19), V.bl (b 20)]) ++ [V.bl (b 21), V.bl (b 22), V.bl (b 23)]))) := (s6.trans (sameU hq7)).trans (sameU hp7)
    have l7 : upd (upd G6 q7 (.lst [V.bl (b 21), V.bl (b 22), V.bl (b 23)])) p7 (.lst ((((((([V.bl (b 0), V.bl (b 1), V.bl (b 2)] ++ [V.bl (b 3), V.bl (b 4), V.bl (b 5)]) ++ [V.bl (b 6), V.bl (b 7), V.bl (b 8)]) ++ [V.bl (b 9), V.bl (b 10), V.bl (b 11)]) ++ [V.bl (b 12), V.bl (b 13), V.bl (b 14)]) ++ [V.bl (b 15), V.bl (b 16), V.bl (b 17)]) ++ [V.bl (b 18), V.bl (b 19), V.bl (b 20)]) ++ [V.bl (b 21), V.bl (b 22), V.bl (b 23)])) p7 = some (.lst ((((((([V.bl (b 0), V.bl (b 1), V.bl (b 2)] ++ [V.bl (b 3), V.bl (b 4), V.bl (b 5)]) ++ [V.bl (b 6), V.bl (b 7), V.bl (b 8)]) ++ [V.bl (b 9), V.bl (b 10), V.bl (b 11)]) ++ [V.bl (b 12), V.bl (b 13), V.bl (b 14)]) ++ [V.bl (b 15), V.bl (b 16), V.bl (b 17)]) ++ [V.bl (b 18), V.bl (b 19), V.bl (b 20)]) ++ [V.bl (b 21), V.bl (b 22), V.bl (b 23)])) := upd_same
    generalize upd (upd G6 q7 (.lst [V.bl (b 21), V.bl (b 22), V.bl (b 23)])) p7 (.lst ((((((([V.bl (b 0), V.bl (b 1), V.bl (b 2)] ++ [V.bl (b 3), V.bl (b 4), V.bl (b 5)]) ++ [V.bl (b 6), V.bl (b 7), V.bl (b 8)]) ++ [V.bl (b 9), V.bl (b 10), V.bl (b 11)]) ++ [V.bl (b 12), V.bl (b 13), V.bl (b 14)]) ++ [V.bl (b 15), V.bl (b 16), V.bl (b 17)]) ++ [V.bl (b 18), V.bl (b 19), V.bl (b 20)]) ++ [V.bl (b 21), V.bl (b 22), V.bl (b 23)])) = G7 at s7 l7 ⊢
    refine ⟨_, rfl, _, rfl, C, .ref (He.ga K "Stops"), .ref (He.ga K "Stops"), b 24, rfl, (xo.same s7), T, .own _, hk 24 (by decide), by show 1 ≤ sizeLine; omega, fun q8 hq8 => ⟨p7, q8, _, _, rfl, rfl, upS l7 hq8, upd_same, by show 25 ≤ sizeLine; omega, fun p8 hp8 => ?_⟩⟩
    have s8 : Same H (upd (upd G7 q8 (.lst [V.bl (b 24)])) p8 (.lst (((((((([V.bl (b 0), V.bl (b 1), V.bl (b 2)] ++ [V.bl (b 3), V.bl (b 4), V.bl (b 5)]) ++ [V.bl (b 6), V.bl (b 7), V.bl (b 8)]) ++ [V.bl (b 9), V.bl (b 10), V.bl (b 11)]) ++ [V.bl (b 12), V.bl (b 13), V.bl (b 14)]) ++ [V.bl (b 15), V.bl (b 16), V.bl (b 17)]) ++ [V.bl (b 18), V.bl (b 19), V.bl (b 20)]) ++ [V.bl (b 21), V.bl (b 22), V.bl (b 23)]) ++ [V.bl (b 24)]))) := (s7.trans (sameU hq8)).trans (sameU hp8)
    have l8 : upd (upd G7 q8 (.lst [V.bl (b 24)])) p8 (.lst (((((((([V.bl (b 0), V.bl (b 1), V.bl (b 2)] ++ [V.bl (b 3), V.bl (b 4), V.bl (b 5)]) ++ [V.bl (b 6), V.bl (b 7), V.bl (b 8)]) ++ [V.bl (b 9), V.bl (b 10), V.bl (b 11)]) ++ [V.bl (b 12), V.bl (b 13), V.bl (b 14)]) ++ [V.bl (b 15), V.bl (b 16), V.bl (b 17)]) ++ [V.bl (b 18), V.bl (b 19), V.bl (b 20)]) ++ [V.bl (b 21), V.bl (b 22), V.bl (b 23)]) ++ [V.bl (b 24)])) p8 = some (.lst (((((((([V.bl (b 0), V.bl (b 1), V.bl (b 2)] ++ [V.bl (b 3), V.bl (b 4), V.bl (b 5)]) ++ [V.bl (b 6), V.bl (b 7), V.bl (b 8)]) ++ [V.bl (b 9), V.bl (b 10), V.bl (b 11)]) ++ [V.bl (b 12), V.bl (b 13), V.bl (b 14)]) ++ [V.bl (b 15), V.bl (b 16), V.bl (b 17)]) ++ [V.bl (b 18), V.bl (b 19), V.bl (b 20)]) ++ [V.bl (b 21), V.bl (b 22), V.bl (b 23)]) ++ [V.bl (b 24)])) := upd_same
    generalize upd (upd G7 q8 (.lst [V.bl (b 24)])) p8 (.lst (((((((([V.bl (b 0), V.bl (b 1), V.bl (b 2)] ++ [V.bl (b 3), V.bl (b 4), V.bl (b 5)]) ++ [V.bl (b 6), V.bl (b 7), V.bl (b 8)]) ++ [V.bl (b 9), V.bl (b 10), V.bl (b 11)]) ++ [V.bl (b 12), V.bl (b 13), V.bl (b 14)]) ++ [V.bl (b 15), V.bl (b 16), V.bl (b 17)]) ++ [V.bl (b 18), V.bl (b 19), V.bl (b 20)]) ++ [V.bl (b 21), V.bl (b 22), V.bl (b 23)]) ++ [V.bl (b 24)])) = G8 at s8 l8 ⊢
    have lb : G8 p8 = some (.lst ((List.range 25).map fun k => V.bl (b k))) := l8
    refine ⟨25, rfl, by omega, by omega, fun D hD => lc_range (lo := 0) (n := 25) (fun i G => G = upd G8 D (.lst (((List.range i).filter b).map fun k : Nat => V.int k))) rfl ?_ ?_⟩
    · rintro i G hi rfl
      have ei : (0 : Int) + (i : Int) = ((i : Nat) : Int) := by omega
      have hg : ((List.range 25).map fun k => V.bl (b k))[i]? = some (V.bl (b i)) := by rw [List.getElem?_map, List.getElem?_range hi]; rfl
      refine ⟨rfl, _, rfl, _, rfl, p8, _, _, _, rfl, rfl, SqL.of (upS lb hD), by rw [ei]; exact atI_nat hg, b i, rfl, ite2 (fun h => ?_) (fun h => ?_)⟩
      · refine ⟨_, rfl, _, upd_same, ?_, ?_⟩
        · rw [List.length_map]
          have := List.length_filter_le b (List.range i)
          rw [List.length_range] at this
          omega
        · rw [upd_upd, List.range_succ, List.filter_append, List.map_append, ei]
          simp only [List.filter_cons, h, if_true, List.filter_nil, List.map_cons, List.map_nil]
      · rw [List.range_succ, List.filter_append]
        simp only [List.filter_cons, h, Bool.false_eq_true, if_false, List.filter_nil, List.append_nil]
    · rintro G rfl
      exact kk D _ (s8.trans (sameU hD)) upd_same
end
end K00
namespace K00
open PySem PySem.Spec PyProof.Rows L2 L2H Sw
section
variable {P : Program} {w : World} {K : PySem.W.Frag} {mg : Str → Option Value} {base : Heap}
abbrev CN : List Str := ["_law_at", "_law_it", "_law_found", "_law_e"]
theorem sc_caught : FnScope CN ["_law_at", "_law_it"] (defScope (top 40)) := ⟨rfl, rfl, rfl, by decide +kernel, rfl, by decide +kernel, by decide +kernel⟩
theorem exm_at : ∀ n, n < 5 → nmAt (cods.getD n 0) ∈ clsN ∧ cods.getD n 0 < 25 := by decide +kernel
/-- what the suite says of a held error -/
def tSuite (K : PySem.W.Frag) (a : Addr) (cls : Value) (d : Option Addr) : TS := fun D σ H => ∀ oe : Obj, L2N.Zn cls d oe → (∃ vs, oe.data = .fields vs) → tAsg (fun σ H Q => tCons (tVar 3) tNil σ H fun vs H1 => spKindsE K (a, oe) vs H1 Q E0) (gName 2) D σ H
theorem same_del {H H1 : Hp} {a : Addr} (ha : H a = none) (s : Same H H1) : Same H (delH H1 a) := fun b o hb => by rw [delH_ne (ne_of_none hb ha)]; exact s b o hb
theorem ok_caught {f fKi : Addr} {fd fdKi : FuncData} (F : FnP K "_law_caught" 40 f fd) (FKi : FnP K "_law_kinds" 38 fKi fdKi) (gKi : mg "_law_kinds" = some (.ref fKi)) (Z : Facts K mg) (gI : mg "isinstance" = none) (gRa : mg "range" = none) : FnOk P w K mg base CX0 4 f fd ["_law_at", "_law_it"] (spCaught K) := by
  have GKi : FnE P w K mg base 1 fKi fdKi ["_law_e"] (spKindsE K) := ok_kindsE FKi Z gI gRa
  have bKi : Binds K fdKi ["_law_e"] [] := FKi.bindsN fun _ _ _ _ _ _ us hl => match us, hl with | [_], _ => rfl
  obtain ⟨fd0, F0⟩ := Z.i_NotSure
  have T0 := Z.T "NotSure" (by decide)
  have h0 := Z.ini "NotSure" (by decide) (by decide)
  have b0 : Binds K fd0 ["self", "paper"] [] := F0.bindsN fun _ _ _ _ _ _ us hl => match us, hl with | [_, _], _ => rfl
  obtain ⟨fd1, F1⟩ := Z.i_NotAlike
  have T1 := Z.T "NotAlike" (by decide)
  have h1 := Z.ini "NotAlike" (by decide) (by decide)
  have b1 : Binds K fd1 ["self", "text"] [] := F1.bindsN fun _ _ _ _ _ _ us hl => match us, hl with | [_, _], _ => rfl
  obtain ⟨fd2, F2⟩ := Z.i_BadName
  have T2 := Z.T "BadName" (by decide)
  have h2 := Z.ini "BadName" (by decide) (by decide)
  have b2 : Binds K fd2 ["self", "name"] [] := F2.bindsN fun _ _ _ _ _ _ us hl => match us, hl with | [_, _], _ => rfl
  obtain ⟨fd3, F3⟩ := Z.i_Silent
  have T3 := Z.T "Silent" (by decide)
  have h3 := Z.ini "Silent" (by decide) (by decide)
  have b3 : Binds K fd3 ["self", "text", "loop", "rest"] [] := F3.bindsN fun _ _ _ _ _ _ us hl => match us, hl with | [_, _, _, _], _ => rfl
  refine F.ok sc_caught (fun vs H Q E h => ?_) (fun cdv A outer s H vs Q E hr h => ?_)
  · obtain ⟨n, v, rfl, _⟩ := h; rfl
  · obtain ⟨n, v, rfl, hn, kk⟩ := h
    have hr : Room 2 _ := hr.mono (by decide)
    have hr1 : RoomH 1 _ := (roomH_of hr).mono (by decide)
    have SE := Z.T "StreamError" (by decide)
    refine ⟨_, PSs.nox (pss_cons (ps_set (i := 2) sc_caught.nd rfl (Or.inl rfl) pe_non)
      (pss_cons (L2N.ps_try_as (i := 3) (Wout := fun _ _ _ _ => False) (c := .ref (He.ga K "StreamError")) (ts := tSuite K) rfl rfl sc_caught.nd rfl rfl ⟨by rfl, by decide, .inl (Z.mgC "StreamError" (by decide))⟩ (fun u s' ⟨_, _, _, _, _, _, _, _, _, _, _, _, _, _, _, _, z⟩ => z.elim)
        (fun W pn xe tk _ => (pss_cons (ps_if (pt_cmpR op_eq (pv 0) pe_int (nomark _)) (pss_one (L2N.ps_raise rfl tk (pmk_val (X := (cxOf CX0 P w K mg base CN "_law_caught" (defScope (top 40)) f cdv A outer s H E).nox.tr pn xe) (K0 := K) (H0 := H) rfl rfl rfl (pe_xmk T0 h0.1 h0.2 (ok_NotSure F0) hr b0 (by rfl) (Z.mgC "NotSure" (by decide)) (pa_cons (pv 1) pa_nil))))) pss_nil)
          (pss_cons (ps_if (pt_cmpR op_eq (pv 0) pe_int (nomark _)) (pss_one (L2N.ps_raise rfl tk (pmk_val (X := (cxOf CX0 P w K mg base CN "_law_caught" (defScope (top 40)) f cdv A outer s H E).nox.tr pn xe) (K0 := K) (H0 := H) rfl rfl rfl (pe_xmk T1 h1.1 h1.2 (ok_NotAlike F1) hr b1 (by rfl) (Z.mgC "NotAlike" (by decide)) (pa_cons (pv 1) pa_nil))))) pss_nil)
          (pss_cons (ps_if (pt_cmpR op_eq (pv 0) pe_int (nomark _)) (pss_one (L2N.ps_raise rfl tk (pmk_val (X := (cxOf CX0 P w K mg base CN "_law_caught" (defScope (top 40)) f cdv A outer s H E).nox.tr pn xe) (K0 := K) (H0 := H) rfl rfl rfl (pe_xmk T2 h2.1 h2.2 (ok_BadName F2) hr b2 (by rfl) (Z.mgC "BadName" (by decide)) (pa_cons (pv 1) pa_nil))))) pss_nil)
          (pss_cons (ps_if (pt_cmpR op_eq (pv 0) pe_int (nomark _)) (pss_one (L2N.ps_raise rfl tk (pmk_val (X := (cxOf CX0 P w K mg base CN "_law_caught" (defScope (top 40)) f cdv A outer s H E).nox.tr pn xe) (K0 := K) (H0 := H) rfl rfl rfl (pe_xmk T3 h3.1 h3.2 (ok_Silent F3) hr b3 (by rfl) (Z.mgC "Silent" (by decide)) (pa_cons (pv 1) (pa_cons (pv 1) (pa_cons (pv 1) pa_nil))))))) pss_nil)
          (pss_one (L2N.ps_raise rfl tk (pmk_val (X := (cxOf CX0 P w K mg base CN "_law_caught" (defScope (top 40)) f cdv A outer s H E).nox.tr pn xe) (K0 := K) (H0 := H) rfl rfl rfl (pe_xmk0 (Z.bare "NothingToUndo" (by decide)) (Z.T "NothingToUndo" (by decide)).kp (by rfl) (Z.mgC "NothingToUndo" (by decide)))))))))))
        (fun a oe cls d pn hz hf => pss_one ⟨fun pins s σ H D I h => (ps_set (i := 2) sc_caught.nd rfl (Or.inl rfl) (pe_callE (q := (a, oe)) GKi ⟨hr1.dp, hr1.un⟩ ⟨rfl, by obtain ⟨vs, e⟩ := hf; exact ⟨vs, e, hz.2.2 vs e⟩⟩ (List.mem_cons_self ..) (by rfl) gKi FKi.kp bKi (pa_cons (pv 3) pa_nil))).run pins s σ H D I (h oe hz hf)⟩))
      (pss_one (ps_ret (pv 2))))), ?_⟩
    rcases (show n = 0 ∨ n = 1 ∨ n = 2 ∨ n = 3 ∨ n = 4 by omega) with rfl | rfl | rfl | rfl | rfl
    · refine ⟨_, rfl, rfl, _, rfl, iteT ⟨_, rfl, by show 1 ≤ 1000; omega, fun a ha => ⟨a, _, [v], rfl, rfl, T0, upd_same, fun H1 ev1 k1 => ⟨rfl, a, _, rfl, T0, fr0_none ha, .inl ?_⟩⟩⟩⟩
      obtain ⟨d, nd, g1, g2⟩ := ev1
      refine ⟨d, _, g1, g2, true, Z.exm "NotSure" (by decide), fun _ a2 ha2 oe hz hf => ?_, fun z => by cases z⟩
      refine ⟨_, rfl, _, fun k => ("NotSure" : Str) == nmAt k, rfl, ⟨hz.1, hf, .inr ⟨d, _, hz.2.1, by rw [delH_ne nd]; exact g2⟩⟩, T0, fun k hk => Z.kit "NotSure" (by decide) (nmAt k) (nm_mem k hk), fun p H2 s2 hp => ?_⟩
      have e5 : (((List.range 25).filter fun k => ("NotSure" : Str) == nmAt k).map fun k : Nat => V.int k) = [V.int ((3 : Nat) : Int)] := only_one 3 (by decide)
      rw [e5] at hp
      exact ⟨_, rfl, kk p H2 ((same_del ha (mk_same ha k1)).trans s2) hp⟩
    · refine ⟨_, rfl, rfl, _, rfl, iteF ⟨_, rfl, rfl, _, rfl, iteT ⟨_, rfl, by show 1 ≤ 1000; omega, fun a ha => ⟨a, _, [v], rfl, rfl, T1, upd_same, fun H1 ev1 k1 => ⟨rfl, a, _, rfl, T1, fr0_none ha, .inl ?_⟩⟩⟩⟩⟩
      obtain ⟨d, nd, g1, g2⟩ := ev1
      refine ⟨d, _, g1, g2, true, Z.exm "NotAlike" (by decide), fun _ a2 ha2 oe hz hf => ?_, fun z => by cases z⟩
      refine ⟨_, rfl, _, fun k => ("NotAlike" : Str) == nmAt k, rfl, ⟨hz.1, hf, .inr ⟨d, _, hz.2.1, by rw [delH_ne nd]; exact g2⟩⟩, T1, fun k hk => Z.kit "NotAlike" (by decide) (nmAt k) (nm_mem k hk), fun p H2 s2 hp => ?_⟩
      have e5 : (((List.range 25).filter fun k => ("NotAlike" : Str) == nmAt k).map fun k : Nat => V.int k) = [V.int ((16 : Nat) : Int)] := only_one 16 (by decide)
      rw [e5] at hp
      exact ⟨_, rfl, kk p H2 ((same_del ha (mk_same ha k1)).trans s2) hp⟩
    · refine ⟨_, rfl, rfl, _, rfl, iteF ⟨_, rfl, rfl, _, rfl, iteF ⟨_, rfl, rfl, _, rfl, iteT ⟨_, rfl, by show 1 ≤ 1000; omega, fun a ha => ⟨a, _, [v], rfl, rfl, T2, upd_same, fun H1 ev1 k1 => ⟨rfl, a, _, rfl, T2, fr0_none ha, .inl ?_⟩⟩⟩⟩⟩⟩
      obtain ⟨d, nd, g1, g2⟩ := ev1
      refine ⟨d, _, g1, g2, true, Z.exm "BadName" (by decide), fun _ a2 ha2 oe hz hf => ?_, fun z => by cases z⟩
      refine ⟨_, rfl, _, fun k => ("BadName" : Str) == nmAt k, rfl, ⟨hz.1, hf, .inr ⟨d, _, hz.2.1, by rw [delH_ne nd]; exact g2⟩⟩, T2, fun k hk => Z.kit "BadName" (by decide) (nmAt k) (nm_mem k hk), fun p H2 s2 hp => ?_⟩
      have e5 : (((List.range 25).filter fun k => ("BadName" : Str) == nmAt k).map fun k : Nat => V.int k) = [V.int ((14 : Nat) : Int)] := only_one 14 (by decide)
      rw [e5] at hp
      exact ⟨_, rfl, kk p H2 ((same_del ha (mk_same ha k1)).trans s2) hp⟩
    · refine ⟨_, rfl, rfl, _, rfl, iteF ⟨_, rfl, rfl, _, rfl, iteF ⟨_, rfl, rfl, _, rfl, iteF ⟨_, rfl, rfl, _, rfl, iteT ⟨_, rfl, _, rfl, _, rfl, by show 3 ≤ 1000; omega, fun a ha => ⟨a, _, [v, v, v], rfl, rfl, T3, upd_same, fun H1 ev1 k1 => ⟨rfl, a, _, rfl, T3, fr0_none ha, .inl ?_⟩⟩⟩⟩⟩⟩⟩
      obtain ⟨d, nd, g1, g2⟩ := ev1
      refine ⟨d, _, g1, g2, true, Z.exm "Silent" (by decide), fun _ a2 ha2 oe hz hf => ?_, fun z => by cases z⟩
      refine ⟨_, rfl, _, fun k => ("Silent" : Str) == nmAt k, rfl, ⟨hz.1, hf, .inr ⟨d, _, hz.2.1, by rw [delH_ne nd]; exact g2⟩⟩, T3, fun k hk => Z.kit "Silent" (by decide) (nmAt k) (nm_mem k hk), fun p H2 s2 hp => ?_⟩
      have e5 : (((List.range 25).filter fun k => ("Silent" : Str) == nmAt k).map fun k : Nat => V.int k) = [V.int ((22 : Nat) : Int)] := only_one 22 (by decide)
      rw [e5] at hp
      exact ⟨_, rfl, kk p H2 ((same_del ha (mk_same ha k1)).trans s2) hp⟩
    · refine ⟨_, rfl, rfl, _, rfl, iteF ⟨_, rfl, rfl, _, rfl, iteF ⟨_, rfl, rfl, _, rfl, iteF ⟨_, rfl, rfl, _, rfl, iteF (fun a ha => ⟨a, _, rfl, Z.T "NothingToUndo" (by decide), fr0_none ha, .inr ⟨upd_same, ?_⟩⟩)⟩⟩⟩⟩
      refine ⟨true, Z.exm "NothingToUndo" (by decide), fun _ a2 ha2 oe hz hf => ?_, fun z => by cases z⟩
      refine ⟨_, rfl, _, fun k => ("NothingToUndo" : Str) == nmAt k, rfl, ⟨hz.1, hf, .inl hz.2.1⟩, Z.T "NothingToUndo" (by decide), fun k hk => Z.kit "NothingToUndo" (by decide) (nmAt k) (nm_mem k hk), fun p H2 s2 hp => ?_⟩
      have e5 : (((List.range 25).filter fun k => ("NothingToUndo" : Str) == nmAt k).map fun k : Nat => V.int k) = [V.int ((19 : Nat) : Int)] := only_one 19 (by decide)
      rw [e5] at hp
      exact ⟨_, rfl, kk p H2 ((same_del ha (sameU ha)).trans s2) hp⟩
end
end K00
namespace K00
open PySem PySem.Spec PyProof.Rows L2 Sw
theorem facts_of {K : PySem.W.Frag} {h : Heap} {mg : Str → Option Value} (X : K.In h) (G : h.Ns mainGlobals mg) (hc : chk K = true) (c : He.SaysD fa fn K) : Facts K mg := by
  unfold chk at hc
  simp only [Bool.and_eq_true] at hc
  obtain ⟨c1, c2, c3, c4, c5, c6, c7⟩ := hc
  have c5' : ∀ x ∈ clsN, kitB K x (.ref (He.ga K "StreamError")) true = true ∧ decide (PySem.W.exmOne K (.ref (He.ga K x)) (.ref (He.ga K "StreamError")) = some true) = true ∧ kitB K x (.type "Exception") true = true ∧ (usual.all fun t => kitB K x (.type t) false) = true := fun x hx => by
    have z := List.all_eq_true.mp c5 x hx
    simpa only [Bool.and_eq_true] using z
  exact {
    G := ⟨He.eqO_ok c1, of_decide_eq_true c2⟩
    T := fun x hx => xc_ok (List.all_eq_true.mp c3 x hx)
    kit := fun x hx y hy => of_decide_eq_true (List.all_eq_true.mp (List.all_eq_true.mp c4 x hx) y hy)
    bas := fun x hx => of_decide_eq_true (c5' x hx).1
    exn := fun x hx => of_decide_eq_true (c5' x hx).2.2.1
    us := fun x hx t ht => of_decide_eq_true (List.all_eq_true.mp (c5' x hx).2.2.2 t ht)
    bare := fun x hx => List.all_eq_true.mp c6 x hx
    ini := fun x hx hb => by
      have z := List.all_eq_true.mp c7 x (List.mem_filter.mpr ⟨hx, by rw [hb]; rfl⟩)
      obtain ⟨z1, z2⟩ := Bool.and_eq_true_iff.mp z
      exact ⟨He.eqO_ok z1, z2⟩
    exm := fun x hx => of_decide_eq_true (c5' x hx).2.1
    mgC := fun x hx => by
      simp only [clsN, List.mem_cons, List.not_mem_nil, or_false] at hx
      rcases hx with rfl | rfl | rfl | rfl | rfl | rfl | rfl | rfl | rfl | rfl | rfl | rfl | rfl | rfl | rfl | rfl | rfl | rfl | rfl | rfl | rfl | rfl | rfl | rfl | rfl | rfl
      · exact He.glo_ok X G (c.fact 14 (f := .glo "StreamError") rfl)
      · exact He.glo_ok X G (c.fact 15 (f := .glo "BadFormat") rfl)
      · exact He.glo_ok X G (c.fact 16 (f := .glo "BadText") rfl)
      · exact He.glo_ok X G (c.fact 17 (f := .glo "BadTranslator") rfl)
      · exact He.glo_ok X G (c.fact 18 (f := .glo "NotSure") rfl)
      · exact He.glo_ok X G (c.fact 19 (f := .glo "BadReader") rfl)
      · exact He.glo_ok X G (c.fact 20 (f := .glo "Drifts") rfl)
      · exact He.glo_ok X G (c.fact 21 (f := .glo "BadPiece") rfl)
      · exact He.glo_ok X G (c.fact 22 (f := .glo "NoAnswer") rfl)
      · exact He.glo_ok X G (c.fact 23 (f := .glo "NoRest") rfl)
      · exact He.glo_ok X G (c.fact 24 (f := .glo "BadMarking") rfl)
      · exact He.glo_ok X G (c.fact 26 (f := .glo "BadPlace") rfl)
      · exact He.glo_ok X G (c.fact 27 (f := .glo "BadWord") rfl)
      · exact He.glo_ok X G (c.fact 30 (f := .glo "BadLine") rfl)
      · exact He.glo_ok X G (c.fact 31 (f := .glo "OtherTexts") rfl)
      · exact He.glo_ok X G (c.fact 34 (f := .glo "BadName") rfl)
      · exact He.glo_ok X G (c.fact 35 (f := .glo "NoName") rfl)
      · exact He.glo_ok X G (c.fact 36 (f := .glo "NotAlike") rfl)
      · exact He.glo_ok X G (c.fact 25 (f := .glo "OtherTable") rfl)
      · exact He.glo_ok X G (c.fact 32 (f := .glo "OtherNumber") rfl)
      · exact He.glo_ok X G (c.fact 37 (f := .glo "NothingToUndo") rfl)
      · exact He.glo_ok X G (c.fact 38 (f := .glo "NothingToRedo") rfl)
      · exact He.glo_ok X G (c.fact 39 (f := .glo "InvalidCommand") rfl)
      · exact He.glo_ok X G (c.fact 28 (f := .glo "Silent") rfl)
      · exact He.glo_ok X G (c.fact 29 (f := .glo "Twins") rfl)
      · exact He.glo_ok X G (c.fact 33 (f := .glo "Stops") rfl)
    i_BadFormat := c.def_ 14 (d := di1) rfl
    i_BadText := c.def_ 15 (d := di2) rfl
    i_BadTranslator := c.def_ 16 (d := di3) rfl
    i_NotSure := c.def_ 17 (d := di4) rfl
    i_BadReader := c.def_ 18 (d := di5) rfl
    i_Drifts := c.def_ 19 (d := di6) rfl
    i_BadPiece := c.def_ 20 (d := di7) rfl
    i_NoAnswer := c.def_ 21 (d := di8) rfl
    i_NoRest := c.def_ 22 (d := di9) rfl
    i_BadMarking := c.def_ 23 (d := di10) rfl
    i_BadPlace := c.def_ 24 (d := di12) rfl
    i_BadWord := c.def_ 25 (d := di13) rfl
    i_BadLine := c.def_ 28 (d := di16) rfl
    i_OtherTexts := c.def_ 29 (d := di17) rfl
    i_BadName := c.def_ 31 (d := di20) rfl
    i_NoName := c.def_ 32 (d := di21) rfl
    i_NotAlike := c.def_ 33 (d := di22) rfl
    i_Silent := c.def_ 26 (d := di14) rfl
    i_Twins := c.def_ 27 (d := di15) rfl
    i_Stops := c.def_ 30 (d := di19) rfl }
theorem facts {P : Program} {w : World} {K : PySem.W.Frag} {h : Heap} {mg : Str → Option Value} {f : Addr} (X : K.In h) (G : h.Ns mainGlobals mg) (hfa : mg ("law" : Str) = some (.ref f)) (hc : chk K = true) (c : He.SaysD fa fn K) :
    ∃ fd : FuncData, (∀ (s : Shared) (v : Value), BindsTo s fd ⟨[v], []⟩ [("_law_script", v)]) ∧ ∀ base : Heap, K.In base → base.Ns mainGlobals mg → FnG P w K mg base 5 f fd ["_law_script"] (spLaw K) := by
  have Z := facts_of X G hc c
  obtain ⟨fd0, F0⟩ := c.def_ 0 (d := dd0) rfl
  obtain ⟨fd1, F1⟩ := c.def_ 1 (d := dd1) rfl
  obtain ⟨fd2, F2⟩ := c.def_ 2 (d := dd2) rfl
  obtain ⟨fd3, F3⟩ := c.def_ 3 (d := dd3) rfl
  obtain ⟨fd4, F4⟩ := c.def_ 4 (d := dd4) rfl
  obtain ⟨fd5, F5⟩ := c.def_ 5 (d := dd5) rfl
  obtain ⟨fd6, F6⟩ := c.def_ 6 (d := dd6) rfl
  obtain ⟨fd7, F7⟩ := c.def_ 7 (d := dd7) rfl
  obtain ⟨fd8, F8⟩ := c.def_ 8 (d := dd8) rfl
  obtain ⟨fd9, F9⟩ := c.def_ 9 (d := dd9) rfl
  obtain ⟨fd10, F10⟩ := c.def_ 10 (d := dd10) rfl
  obtain ⟨fd11, F11⟩ := c.def_ 11 (d := dd11) rfl
  obtain ⟨fd12, F12⟩ := c.def_ 12 (d := dd12) rfl
  obtain ⟨fd13, F13⟩ := c.def_ 13 (d := dd13) rfl
  have e := hfa.symm.trans (He.glo_ok X G (c.fact 13 (f := .glo "law") rfl))
  cases e
  have b := FunD.bindsA (ps := ["_law_script"]) F13 fun _ _ _ _ _ _ us hl => match us, hl with | [_], _ => rfl
  exact ⟨fd13, fun s v => b s [v] rfl, fun base _ _ => ok_law F13 F0 F1 F2 F3 F4 F5 F6 F7 F8 F9 F10 F11 F12
    (He.glo_ok X G (c.fact 0 (f := .glo "_law_deck") rfl)) (He.glo_ok X G (c.fact 1 (f := .glo "_law_draw") rfl)) (He.glo_ok X G (c.fact 2 (f := .glo "_law_pick") rfl)) (He.glo_ok X G (c.fact 3 (f := .glo "_law_made_0") rfl)) (He.glo_ok X G (c.fact 4 (f := .glo "_law_made_1") rfl)) (He.glo_ok X G (c.fact 5 (f := .glo "_law_made_2") rfl)) (He.glo_ok X G (c.fact 6 (f := .glo "_law_bare") rfl)) (He.glo_ok X G (c.fact 7 (f := .glo "_law_wide") rfl)) (He.glo_ok X G (c.fact 8 (f := .glo "_law_made") rfl)) (He.glo_ok X G (c.fact 9 (f := .glo "_law_kept") rfl)) (He.glo_ok X G (c.fact 10 (f := .glo "_law_kinds") rfl)) (He.glo_ok X G (c.fact 11 (f := .glo "_law_is_usual") rfl)) (He.glo_ok X G (c.fact 12 (f := .glo "_law_caught") rfl))
    (He.free_ok X G (c.fact 40 (f := .free "int") rfl)) (He.free_ok X G (c.fact 41 (f := .free "list") rfl)) (He.free_ok X G (c.fact 42 (f := .free "len") rfl)) (He.free_ok X G (c.fact 43 (f := .free "range") rfl)) (He.free_ok X G (c.fact 44 (f := .free "isinstance") rfl)) (He.free_ok X G (c.fact 45 (f := .free "repr") rfl)) (He.free_ok X G (c.fact 46 (f := .free "Exception") rfl)) (He.free_ok X G (c.fact 47 (f := .free "ValueError") rfl)) (He.free_ok X G (c.fact 48 (f := .free "LookupError") rfl)) (He.free_ok X G (c.fact 49 (f := .free "TypeError") rfl)) (He.free_ok X G (c.fact 50 (f := .free "ArithmeticError") rfl)) (He.free_ok X G (c.fact 51 (f := .free "RuntimeError") rfl)) Z
    (ok_caught F12 F10 (He.glo_ok X G (c.fact 10 (f := .glo "_law_kinds") rfl)) Z (He.free_ok X G (c.fact 44 (f := .free "isinstance") rfl)) (He.free_ok X G (c.fact 43 (f := .free "range") rfl)))⟩
end K00
open PySem PySem.W PySem.Calls PyProof.Rows
theorem PySem.Challenge.cw_streamwrights_k00_errors_holds : PySem.Challenge.rw_streamwrights_k00_errors.Holds := by
  w_on; o_law
  refine HandSHeadRun.head_any (r := OpenLaw.row PySem.Challenge.rw_streamwrights_k00_errors) (q := view (OpenLaw.row PySem.Challenge.rw_streamwrights_k00_errors).prog [41]) (H := K00.hk) (ob := K00.ob) (M := 60000) (loose := K00.others) (d := HandSHeadRun.topDef (OpenLaw.row PySem.Challenge.rw_streamwrights_k00_errors).prog 41) (kwd := []) K00.ob_eq
    (by kernel_rfl) (fun s => by kernel_rfl) K00.run (by kernel_rfl) (by kernel_rfl) (by kernel_rfl) (by rfl) (by first | assumption | decide +kernel) (by decide +kernel) ⟨rfl, rfl, rfl, rfl, rfl, by decide +kernel⟩ ?hw ?hc
  case hw => w_witness2
  case hc =>
    refine Sw.walkG (l := PySem.Challenge.rw_streamwrights_k00_errors) (n := 63) (k := 5) (x := "_law_script") rfl (by decide) (by kernel_rfl) ⟨rfl, by decide, by decide⟩ ?F
    intro w mg fa h Y G hmg0
    obtain ⟨K, KX, hchk, c⟩ := Y
    have hmg : mg ("law" : PySem.Str) = some (.ref fa) := by
      have e : (HandSHeadRun.topDef (OpenLaw.row PySem.Challenge.rw_streamwrights_k00_errors).prog 41).name = ("law" : PySem.Str) := by kernel_rfl
      rw [← e]
      exact hmg0
    obtain ⟨fd, hb, hF⟩ := K00.facts (P := (PySem.Challenge.rw_streamwrights_k00_errors).prog) (w := w) KX G hmg hchk c
    exact ⟨K, fd, K00.spLaw K, KX, hb, fun H a ns hl _ hS => ⟨a, ns, rfl, hS, hl, fun _ => rfl⟩, hF⟩
